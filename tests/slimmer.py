"""Slimmed texts, made from the pieces of a text alone, as [64] to [66] tell it.

Whether two models are alike is asked of alike.py, and which answers inputs give of unfolding.py; all else is done with
pieces of text and Fractions.
"""

from fractions import Fraction

from checking import fraction
from hingeworks.alike import apart
from hingeworks.models import Model
from hingeworks.unfolding import unfolded
from reference import Text, split_planes


def number_text(number):
    number = Fraction(number)
    return str(number.numerator) if number.denominator == 1 else f"{number.numerator}/{number.denominator}"


def plane_text(fixed, pairs):
    """A plane as it is written; pairs of a letter and its multiple, in the order of the text."""
    pieces = [number_text(fixed)]
    for letter, multiple in pairs:
        if multiple != 0:
            pieces += [letter, number_text(multiple)]
    return " ".join(pieces)


def parted(pieces):
    """The number and the pairs of a written plane."""
    return Fraction(pieces[0]), [(letter, Fraction(item)) for letter, item in zip(pieces[1::2], pieces[2::2])]


def times(pieces, ratio):
    """A written plane times a ratio."""
    fixed, pairs = parted(pieces)
    return plane_text(ratio * fixed, [(letter, ratio * multiple) for letter, multiple in pairs])


def rows_text(rows):
    return "\n".join(" ".join(row) for row in rows)


def lines_text(apart_text, blocks):
    return rows_text([*apart_text.features, *[row for block in blocks for row in block]])


def choices(apart_text, block):
    """The choices of a value as written planes."""
    head, rest = block[0], block[1:]
    kind = head[0]
    if kind == "hinge":
        return ["0", " ".join(head[2:])]
    if kind == "leaky":
        return [times(head[3:], Fraction(head[2])), " ".join(head[3:])]
    if kind == "clip":
        return [head[2], " ".join(head[4:]), head[3]]
    if kind == "highest":
        return [" ".join(part) for part in split_planes(head[2:])]
    if kind == "tree" and not apart_text.classes[head[1]]:
        return [" ".join(row[1:]) for row in rest if row[0] == "tell"]
    if kind == "gate" and not apart_text.classes[head[1]]:
        return [f"0 {item} 1" for item in head[4::2]]
    return []


def alike(apart_text, at, plane):
    """Whether the value in this place equals a written plane for every input."""
    blocks = apart_text.blocks[:at]
    one = lines_text(apart_text, [*blocks, apart_text.blocks[at]])
    other = lines_text(apart_text, [*blocks, [["sum", apart_text.blocks[at][0][1], plane]]])
    return apart(Model(one), Model(other)) is None


def settled_choices(text):
    """Pairs of a name and the number of the first choice that settles it."""
    taken = Text(text)
    found = []
    for at, block in enumerate(taken.blocks):
        fitting = [number for number, plane in enumerate(choices(taken, block)) if alike(taken, at, plane)]
        if fitting:
            found.append((block[0][1], fitting[0]))
    return found


def leaf_letters(taken, leaf):
    """The numbers of the features at the point of a leaf."""
    letters = dict(zip(taken.yesnos, map(Fraction, leaf.settings)))
    letters.update(zip(taken.fractions, [fraction(item) for item in leaf.point]))
    return letters


def twin_triples(text):
    """Triples (hinge, its first twin, ratio); the ratio is read off the results in all leaves, then asked for."""
    taken = Text(text)
    settled = dict(settled_choices(text))
    results = []
    for leaf in unfolded(Model(text)).leaves:
        letters = leaf_letters(taken, leaf)
        results.append({**letters, **taken.work(letters)[2]})
    hinges = [at for at, block in enumerate(taken.blocks) if block[0][0] == "hinge" and block[0][1] not in settled]
    found = []
    for place, at in enumerate(hinges):
        name = taken.blocks[at][0][1]
        for other in hinges[:place]:
            first = taken.blocks[other][0]
            planes = []
            for told in results:
                plane = parted(first[2:])
                worth = plane[0] + sum(told[letter] * multiple for letter, multiple in plane[1])
                u, v = told[first[1]], told[name]
                if v > 0 and u > 0:
                    planes.append(v / u)
                if v > 0 and worth < 0:
                    planes.append(v / worth)
            fitting = [ratio for ratio in planes[:1] if alike(taken, at, twin_plane(first, ratio))]
            if fitting:
                found.append((name, first[1], fitting[0]))
                break
    return found


def twin_plane(first, ratio):
    """What a twin of a hinge, told by its row, is written as."""
    if ratio > 0:
        return plane_text(0, [(first[1], ratio)])
    fixed, pairs = parted(first[2:])
    return plane_text(ratio * fixed, [*[(letter, ratio * item) for letter, item in pairs], (first[1], -ratio)])


def met_answers(taken, at):
    """The rows of answers that inputs give to the switches of the block in this place."""
    before = Text(lines_text(taken, taken.blocks[:at])) if at else None
    found = set()
    for leaf in unfolded(Model(lines_text(taken, taken.blocks[:at + 1]))).leaves:
        asked = len(before.work(leaf_letters(taken, leaf))[1]) if before else 0
        found.add(leaf.answers[asked:])
    return found


def slim_tree(rows, met):
    """The rows of a tree that stay; rows is an iterator that stands before a node, met the answers from there on."""
    row = next(rows)
    if row[0] != "ask":
        return [row]
    off = slim_tree(rows, {answers[1:] for answers in met if answers and answers[0] == 0})
    on = slim_tree(rows, {answers[1:] for answers in met if answers and answers[0] == 1})
    ways = {answers[0] for answers in met if answers}
    if ways == {0} or (ways != {1} and off == on):
        return off
    return on if ways == {1} else [row, *off, *on]


def rule_given(block, answers):
    """The number of the rule that gives the result, that of the line "else" behind all rules."""
    left = list(answers)
    for number, row in enumerate(block[1:-1]):
        if all(left.pop(0) for _ in split_planes(row[2:])):
            return number
    return len(block) - 2


def best_given(answers):
    return max([0] + [at + 1 for at, answer in enumerate(answers) if answer])


def slim_block(taken, at):
    """A block that is neither settled nor a twin, slimmed."""
    block = taken.blocks[at]
    kind = block[0][0]
    if kind not in ("tree", "rules", "highest"):
        return block
    met = met_answers(taken, at)
    if kind == "highest":
        parts = split_planes(block[0][2:])
        kept = [parts[place] for place in sorted({best_given(answers) for answers in met})]
        return [[*block[0][:2], *" , ".join(" ".join(part) for part in kept).split(" ")]]
    if kind == "tree":
        made = [block[0], *slim_tree(iter(block[1:]), met)]
    else:
        given = {rule_given(block, answers) for answers in met}
        made = [row for place, row in enumerate(block) if place in (0, len(block) - 1) or place - 1 in given]
    return made if taken.classes_of(made) == taken.classes_of(block) else block


def uses(block):
    """The names that a block uses; each of its planes, its letters, verdicts and items."""
    head = block[0]
    if head[0] == "near":
        return set(head[3::2])
    if head[0] == "votes":
        return set(head[head.index(":", 2) + 1:])
    if head[0] == "gate":
        return {head[2], *head[4::2]}
    starts = {"sum": 2, "hinge": 2, "leaky": 3, "clip": 4, "highest": 2, "sign": 4, "choose": 2, "tell": 1, "ask": 1, "if": 2}
    found = set()
    for row in block:
        if row[0] in starts:
            for number, part in enumerate(split_planes(row[starts[row[0]]:])):
                found |= set(part[2 if row[0] == "choose" else 1::2])
    return found


def slimmed_text(text):
    taken = Text(text)
    settled = dict(settled_choices(text))
    twins = {name: (other, ratio) for name, other, ratio in twin_triples(text)}
    blocks = []
    for at, block in enumerate(taken.blocks):
        name = block[0][1]
        if name in settled:
            block = [["sum", name, *choices(taken, block)[settled[name]].split(" ")]]
        elif name in twins:
            first = [other[0] for other in taken.blocks if other[0][1] == twins[name][0]][0]
            block = [["sum", name, *twin_plane(first, twins[name][1]).split(" ")]]
        else:
            block = slim_block(taken, at)
        blocks.append(block)
    kept = [blocks[-1]]
    for block in reversed(blocks[:-1]):
        if any(block[0][1] in uses(later) for later in kept):
            kept.insert(0, block)
    return lines_text(taken, kept)
