"""Correct texts of models, evaluated with numbers alone, as the document tells it line by line.

Nothing of the package is used here. Numbers are Fractions; `ask` is called with the number of each switch.
"""

from fractions import Fraction


class Text:
    """A correct text, taken apart."""

    def __init__(self, text):
        rows = [row.split(" ") for row in text.split("\n")]
        many = 0
        while many < len(rows) and rows[many][0] in ("fraction", "yesno"):
            many += 1
        self.features = rows[:many]
        self.names = [row[1] for row in self.features]
        self.fractions = [row[1] for row in self.features if row[0] == "fraction"]
        self.yesnos = [row[1] for row in self.features if row[0] == "yesno"]
        self.blocks = []
        inside = ("tell", "class", "ask", "if", "else", "row")
        for row in rows[many:]:
            if row[0] in inside:
                self.blocks[-1].append(row)
            else:
                self.blocks.append([row])
        self.classes = {}
        for block in self.blocks:
            self.classes[block[0][1]] = self.classes_of(block)

    def end(self, name, word):
        """The end or the unit that a feature tells behind a word, or None."""
        row = self.features[self.names.index(name)][2:]
        told = dict(zip(row[::2], row[1::2]))
        return Fraction(told[word]) if word in told else None

    def classes_of(self, block):
        head, rest = block[0], block[1:]
        kind = head[0]
        found = []
        if kind == "sign":
            found = head[2:4]
        if kind == "choose":
            found = [part[0] for part in split_planes(head[2:])]
        if kind == "votes":
            found = head[2:head.index(":", 2)]
        if kind == "near":
            found = [row[1] for row in rest]
        if kind == "rules":
            found = [row[1] for row in rest]
        if kind == "tree":
            found = [row[1] for row in rest if row[0] == "class"]
        if kind == "gate":
            for item in head[4::2]:
                found = found + list(self.classes[item])
        return tuple(dict.fromkeys(found))

    def walk(self, letters, ask):
        """The dict of all results; letters is a dict from the names of the features to their numbers."""
        results = dict(letters)
        for block in self.blocks:
            results[block[0][1]] = evaluated(self, block, results, ask)
        return {block[0][1]: results[block[0][1]] for block in self.blocks}

    def work(self, letters):
        """What the model tells, the answers, all results, and the numbers of the switches."""
        numbers = []

        def ask(number):
            numbers.append(number)
            return 1 if number > 0 else 0

        results = self.walk(letters, ask)
        answers = tuple(1 if number > 0 else 0 for number in numbers)
        return list(results.values())[-1], answers, results, numbers

    def told_after(self, settings, answers):
        """("told", plane or class), ("ask", plane), or ("less", many) if only so many answers are asked.

        Planes over the fractions are tuples, the number first; they are read off at points.
        """
        size = len(self.fractions)
        points = [[0] * size] + [[1 if at == k else 0 for at in range(size)] for k in range(size)]
        found = [self.told_at(settings, answers, point) for point in points]
        word, told = found[0]
        assert all(other[0] == word for other in found)
        if word == "less" or isinstance(told, str):
            assert all(other[1] == told for other in found)
            return found[0]
        return word, (told, *[other[1] - told for other in found[1:]])

    def told_at(self, settings, answers, point):
        letters = dict(zip(self.fractions, map(Fraction, point)))
        letters.update(zip(self.yesnos, map(Fraction, settings)))
        left = list(answers)

        def ask(number):
            if not left:
                raise Asking(number)
            return left.pop(0)

        try:
            results = self.walk(letters, ask)
        except Asking as asking:
            return "ask", asking.number
        if left:
            return "less", len(answers) - len(left)
        return "told", list(results.values())[-1]


class Asking(Exception):
    def __init__(self, number):
        Exception.__init__(self)
        self.number = number


def split_planes(pieces):
    parts = [[]]
    for piece in pieces:
        if piece == ",":
            parts.append([])
        else:
            parts[-1].append(piece)
    return parts


def number_of(pieces, results):
    """The number of a written plane."""
    total = Fraction(pieces[0])
    for letter, multiple in zip(pieces[1::2], pieces[2::2]):
        total += results[letter] * Fraction(multiple)
    return total


def best_of(numbers, ask):
    """The place of the greatest number, as the switches of highest tell it."""
    best = 0
    for place in range(1, len(numbers)):
        if ask(numbers[place] - numbers[best]):
            best = place
    return best


def evaluated(text, block, results, ask):
    head, rest = block[0], block[1:]
    kind = head[0]
    if kind == "sum":
        return number_of(head[2:], results)
    if kind == "hinge":
        number = number_of(head[2:], results)
        return number if ask(number) else Fraction(0)
    if kind == "leaky":
        number = number_of(head[3:], results)
        return number if ask(number) else Fraction(head[2]) * number
    if kind == "clip":
        number = number_of(head[4:], results)
        low, high = Fraction(head[2]), Fraction(head[3])
        if not ask(number - low):
            return low
        return high if ask(number - high) else number
    if kind == "highest":
        numbers = [number_of(part, results) for part in split_planes(head[2:])]
        return numbers[best_of(numbers, ask)]
    if kind == "sign":
        return head[3] if ask(number_of(head[4:], results)) else head[2]
    if kind == "choose":
        parts = split_planes(head[2:])
        return parts[best_of([number_of(part[1:], results) for part in parts], ask)][0]
    if kind == "tree":
        return tree_told(iter(rest), results, ask)
    if kind == "rules":
        return rules_told(rest, results, ask)
    if kind == "near":
        return near_told(head, rest, text.classes[head[1]], results, ask)
    if kind == "votes":
        colon = head.index(":", 2)
        return most([results[name] for name in head[colon + 1:]], head[2:colon])
    assert kind == "gate"
    return results[dict(zip(head[3::2], head[4::2]))[results[head[2]]]]


def skip_node(rows):
    """Goes past one node."""
    if next(rows)[0] == "ask":
        skip_node(rows)
        skip_node(rows)


def tree_told(rows, results, ask):
    row = next(rows)
    if row[0] == "tell":
        return number_of(row[1:], results)
    if row[0] == "class":
        return row[1]
    if ask(number_of(row[1:], results)):
        skip_node(rows)
    return tree_told(rows, results, ask)


def rules_told(rows, results, ask):
    for row in rows[:-1]:
        if all(ask(number_of(part, results)) for part in split_planes(row[2:])):
            return row[1]
    return rows[-1][1]


def near_told(head, rows, classes, results, ask):
    many = int(head[2])
    letters = head[3::2]
    units = [Fraction(piece) for piece in head[4::2]]

    def distance(row):
        gaps = [results[letter] - Fraction(ratio) for letter, ratio in zip(letters, row[2:])]
        return sum((gap * gap / (unit * unit) for gap, unit in zip(gaps, units)), Fraction(0))

    kept = []
    for row in rows:
        place = len(kept)
        while place > 0 and ask(distance(kept[place - 1]) - distance(row)):
            place -= 1
        kept.insert(place, row)
        del kept[many:]
    return most([row[1] for row in kept], classes)


def most(votes, classes):
    return max(classes, key=lambda told: (votes.count(told), -list(classes).index(told)))
