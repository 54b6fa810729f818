"""Where leaves part, and which of them reach into a place."""


def forks(leaves, numbers):
    """All triples (depth, leaves behind off, leaves behind on), neither of which is empty.

    The leaves are told by their numbers, those of a triple have equal settings, and depth is the place of the first
    answer in which those behind off and those behind on differ.
    """
    found = []
    waiting = [(0, group) for group in alike_settings(leaves, numbers)]
    while waiting != []:
        depth, group = waiting.pop()
        if len(group) > 1:
            offs = answering(leaves, group, depth, 0)
            ons = answering(leaves, group, depth, 1)
            if offs != [] and ons != []:
                found.append((depth, offs, ons))
            waiting.extend([(depth + 1, offs), (depth + 1, ons)])
    return found


def alike_settings(leaves, numbers):
    """The numbers in lists, one for each settings."""
    groups = {}
    for number in numbers:
        groups.setdefault(leaves[number].settings, []).append(number)
    return list(groups.values())


def answering(leaves, numbers, depth, answer):
    """The numbers of those leaves that have this answer at this depth."""
    return [number for number in numbers if leaves[number].answers[depth] == answer]


def shared_rows(leaf, depth):
    """The rows of the leaf's place ahead of that of the answer at this depth."""
    return leaf.place.rows[:len(leaf.place.rows) - len(leaf.answers) + depth]


def answer_row(leaf, depth):
    """The row of the answer at this depth."""
    return leaf.place.rows[len(leaf.place.rows) - len(leaf.answers) + depth]


def reached(tableau, leaves, numbers, depth, turned):
    """The leaves that have a point in the place of a settled tableau, as pairs (number, tableau with their rows).

    The leaves have equal answers ahead of the depth, and only their rows from there on are added. A row is added as
    the function `turned` returns it, or left aside if that is None.
    """
    found = []
    waiting = [(tableau, depth, numbers)]
    while waiting != []:
        here, at, group = waiting.pop()
        if at == len(leaves[group[0]].answers):
            found.append((group[0], here))
            continue
        for answer in (0, 1):
            part = answering(leaves, group, at, answer)
            if part != []:
                row = turned(answer_row(leaves[part[0]], at))
                longer = here if row is None else here.with_row(row)
                if row is None or longer.settle() is None:
                    waiting.append((longer, at + 1, part))
    return found
