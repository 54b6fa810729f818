"""The classes that class models return for some input."""

from hingeworks.errors import Unlike
from hingeworks.twofold import check_two
from hingeworks.unfolding import unfolded


def classes_met(model):
    """Pairs of each class that is met and an input that has it, in the order of the model's classes."""
    check_class_model(model)
    found = leaf_inputs(model.features, unfolded(model).leaves)
    return tuple([(told, found[(told,)]) for told in model.classes if (told,) in found])


def classes_together(one, other):
    """Triples of each class of one, each class of the other that it meets, and an input that has both."""
    check_two(one, other)
    check_class_model(one)
    found = leaf_inputs(one.features, unfolded(one, other).leaves)
    pairs = [(first, second) for first in one.classes for second in other.classes]
    return tuple([(*told, found[told]) for told in pairs if told in found])


def check_class_model(model):
    """Refuses a model that returns a number."""
    if model.tells == "number":
        raise Unlike("kind")


def leaf_inputs(features, leaves):
    """A dict from the classes that are told together on some leaf to an input of such a leaf."""
    return {leaf.told: features.input_of(leaf.settings, leaf.point) for leaf in leaves}
