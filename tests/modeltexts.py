"""Correct texts of models for the tests, made by a random source that begins alike each time."""

from fractions import Fraction

WORDS = ["a", "b", "from", "to", "by", "sum", "tree", "row", "else", "votes", "gate", "near", "class", "tell", "ask",
         "yesno", "fraction", "abcdefghijkl", "zz", "u", "v", "w", "x", "y", "z", "p", "q", "r", "s", "t", "no", "yes"]
CLASSES = ["no", "yes", "low", "high", "a", "x", "class", "abcdefghijkl"]
NUMBERS = ["0", "1", "-1", "2", "-2", "1/2", "-1/2", "3", "-3/2", "2/3", "5"]
VALUES = ["sum", "hinge", "leaky", "clip", "highest", "tree"]
VERDICTS = ["sign", "choose", "rules", "near", "treeclass"]


class Maker:
    """Writes a text; numbers are small, so that switches meet and leaves are thin now and then."""

    def __init__(self, rng):
        self.rng = rng
        self.rows = []
        self.letters = []
        self.planes = []
        self.values = []
        self.verdicts = {}
        self.names = list(WORDS)
        rng.shuffle(self.names)

    def features(self, fractions, yesnos, ends):
        """Lines of features; each end is there with the chance `ends`."""
        kinds = ["fraction"] * fractions + ["yesno"] * yesnos
        self.rng.shuffle(kinds)
        for kind in kinds:
            name = self.names.pop()
            row = [kind, name]
            if kind == "fraction" and self.rng.random() < ends:
                row += ["from", self.rng.choice(["-1", "0", "-2", "-1/2"])]
            if kind == "fraction" and self.rng.random() < ends:
                row += ["to", self.rng.choice(["1", "2", "3/2"])]
            if self.rng.random() < 0.3:
                row += ["by", self.rng.choice(["2", "1/2", "3", "7/3"])]
            self.rows.append(" ".join(row))
            self.letters.append(name)

    def number(self):
        return self.rng.choice(NUMBERS)

    def nonzero(self):
        return self.rng.choice([number for number in NUMBERS if number != "0"])

    def plane(self, many=3):
        """A plane; now and then the opposite of an earlier one, so that leaves are thin."""
        if self.planes and self.rng.random() < 0.25:
            pieces = self.rng.choice(self.planes)
            return " ".join(opposite(piece) if at % 2 == 0 else piece for at, piece in enumerate(pieces))
        chosen = sorted(self.rng.sample(range(len(self.letters)), min(self.rng.randint(0, many), len(self.letters))))
        pieces = [self.number()]
        for at in chosen:
            pieces += [self.letters[at], self.nonzero()]
        self.planes.append(pieces)
        return " ".join(pieces)

    def classes(self, many):
        return self.rng.sample(CLASSES, many)

    def line(self, kind):
        """One value or verdict of this kind; "treeclass" is a tree of classes."""
        name = self.names.pop()
        if kind in ("votes", "gate") and not self.verdicts:
            kind = "sign"
        classes = getattr(self, "add_" + kind)(name)
        if classes:
            self.verdicts[name] = list(dict.fromkeys(classes))
        else:
            self.letters.append(name)
            self.values.append(name)

    def add_sum(self, name):
        self.rows.append(f"sum {name} {self.plane()}")

    def add_hinge(self, name):
        self.rows.append(f"hinge {name} {self.plane()}")

    def add_leaky(self, name):
        self.rows.append(f"leaky {name} {self.number()} {self.plane()}")

    def add_clip(self, name):
        low, high = self.rng.choice([("0", "1"), ("-1", "1/2"), ("-3/2", "-1"), ("0", "1/3")])
        self.rows.append(f"clip {name} {low} {high} {self.plane()}")

    def add_highest(self, name):
        self.rows.append(f"highest {name} " + " , ".join(self.plane(2) for _ in range(self.rng.randint(2, 4))))

    def add_tree(self, name):
        self.rows.append(f"tree {name}")
        self.node(2, lambda: "tell " + self.plane(2))

    def add_treeclass(self, name):
        told = []

        def end():
            told.append(self.rng.choice(CLASSES))
            return "class " + told[-1]

        self.rows.append(f"tree {name}")
        self.node(2, end)
        return told

    def node(self, depth, end):
        if depth > 0 and self.rng.random() < 0.7:
            self.rows.append("ask " + self.plane(2))
            self.node(depth - 1, end)
            self.node(depth - 1, end)
        else:
            self.rows.append(end())

    def add_sign(self, name):
        classes = self.classes(2)
        self.rows.append(f"sign {name} {' '.join(classes)} {self.plane()}")
        return classes

    def add_choose(self, name):
        classes = self.classes(self.rng.randint(2, 4))
        self.rows.append(f"choose {name} " + " , ".join(f"{told} {self.plane(2)}" for told in classes))
        return classes

    def add_rules(self, name):
        told = []
        self.rows.append(f"rules {name}")
        for _ in range(self.rng.randint(0, 2)):
            told.append(self.rng.choice(CLASSES))
            planes = " , ".join(self.plane(2) for _ in range(self.rng.randint(1, 2)))
            self.rows.append(f"if {told[-1]} {planes}")
        told.append(self.rng.choice(CLASSES))
        self.rows.append(f"else {told[-1]}")
        return told

    def add_near(self, name):
        many = self.rng.randint(1, 3)
        chosen = sorted(self.rng.sample(range(len(self.letters)), self.rng.randint(1, min(2, len(self.letters)))))
        units = " ".join(f"{self.letters[at]} {self.rng.choice(['1', '2', '1/2'])}" for at in chosen)
        self.rows.append(f"near {name} {many} {units}")
        told = []
        for _ in range(many + self.rng.randint(0, 1)):
            told.append(self.rng.choice(CLASSES[:3]))
            self.rows.append(" ".join(["row", told[-1]] + [self.number() for _ in chosen]))
        return told

    def add_votes(self, name):
        named = [self.rng.choice(list(self.verdicts)) for _ in range(self.rng.randint(1, 3))]
        classes = list(dict.fromkeys(told for verdict in named for told in self.verdicts[verdict]))
        self.rng.shuffle(classes)
        self.rows.append(f"votes {name} {' '.join(classes)} : {' '.join(named)}")
        return classes

    def add_gate(self, name):
        verdict = self.rng.choice(list(self.verdicts))
        items = self.values if self.values and self.rng.random() < 0.5 else list(self.verdicts)
        chosen = [self.rng.choice(items) for _ in self.verdicts[verdict]]
        pairs = " ".join(f"{told} {item}" for told, item in zip(self.verdicts[verdict], chosen))
        self.rows.append(f"gate {name} {verdict} {pairs}")
        return [] if items is self.values else [told for item in chosen for told in self.verdicts[item]]

    def text(self):
        return "\n".join(self.rows)


def opposite(number):
    """The written form of a number times -1."""
    if number == "0":
        return number
    return number[1:] if number[0] == "-" else "-" + number


def random_text(rng, fractions, yesnos, kinds, ends=0.5, like=None):
    """A correct text with lines of these kinds, in any order, and if told the features of a reference Text."""
    maker = Maker(rng)
    if like is None:
        maker.features(fractions, yesnos, ends)
    else:
        maker.rows = [" ".join(row) for row in like.features]
        maker.letters = list(like.names)
        maker.names = [name for name in maker.names if name not in like.names]
    kinds = list(kinds)
    rng.shuffle(kinds)
    for kind in kinds:
        maker.line(kind)
    return maker.text()


def some_texts(rng, rounds, lines=4):
    """Texts of all kinds of lines, with one to three fractions or none, and up to two yesnos."""
    kinds = VALUES + VERDICTS + ["votes", "gate"]
    for _ in range(rounds):
        fractions = rng.randint(0, 3)
        yesnos = rng.randint(0 if fractions else 1, 2)
        yield random_text(rng, fractions, yesnos, [rng.choice(kinds) for _ in range(rng.randint(1, lines))])


def random_input(rng, text):
    """Fractions that lie within the ranges, for the features of a reference Text, often at an end or at a switch."""
    found = []
    for name in text.names:
        if name in text.yesnos:
            found.append(Fraction(rng.randint(0, 1)))
            continue
        low, high = text.end(name, "from"), text.end(name, "to")
        if low is not None and rng.random() < 0.15:
            found.append(low)
        elif high is not None and rng.random() < 0.15:
            found.append(high)
        else:
            number = Fraction(rng.randint(-8, 8), rng.choice([1, 2, 3, 4]))
            if low is not None:
                number = max(number, low)
            found.append(number if high is None else min(number, high))
    return found
