"""Models as trees."""

from hingeworks.branching import first_branch
from hingeworks.models import Model, check_switches
from hingeworks.writing import plane_text


def tree_of(model):
    """The model of one tree that asks the switches of a model, those alone that have both answers."""
    features = model.features
    rows = features.place_rows()
    nodes = []
    for settings in features.all_settings():
        nodes.append(node_of(first_branch(rows, [(model, features.letters_for(settings))])))
    for name in reversed(features.yesnos):
        told = f"-1/2 {name} 1"
        nodes = [asked_node(told, nodes[at], nodes[at + 1]) for at in range(0, len(nodes), 2)]
    depth, lines = nodes[0]
    check_switches(depth)
    texts = [f"{word} {told_text(told, features.fractions)}" for word, told in lines]
    return Model("\n".join([features.text, f"tree {model.names[-1]}", *texts]))


def node_of(branch):
    """The node that a branch comes to: how deep it is, and its lines, pairs of a word and what stands behind it."""
    if branch.walk.plane is None:
        told = branch.walk.told[0]
        return 0, [("class" if isinstance(told, str) else "tell", told)]
    off = branch.longer(0)
    on = branch.longer(1)
    if off.blocked is not None:
        return node_of(on)
    if on.blocked is not None:
        return node_of(off)
    return asked_node(branch.walk.plane, node_of(off), node_of(on))


def asked_node(told, off, on):
    """The node that asks a switch and continues with one of two nodes."""
    return max(off[0], on[0]) + 1, [("ask", told), *off[1], *on[1]]


def told_text(told, names):
    """What stands behind the word of a node, as text: a plane, a class, or a text itself."""
    return told if isinstance(told, str) else plane_text(told, names)
