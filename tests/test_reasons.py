import random
import unittest
from fractions import Fraction
from itertools import combinations

from checking import NO_NUMBERS, check_empty_weights, check_raised, fraction, fractions, numbers, place, ratio
from hingeworks.errors import BadGiven, BadName, BadNumber, NoFeature, TooLarge, TooLong, Unlike
from hingeworks.models import Model
from hingeworks.ratios import Ratio
from hingeworks.reasons import Reasons, at_least, enough_papers, reasons, turned
from hingeworks.unfolding import unfolded
from judging import check_given, random_given, ratios, told_at
from modeltexts import some_texts
from reference import Text

X = "fraction x\n"
SQUARE = "fraction x from 0 to 1\nfraction y from 0 to 1\n"
MIXED = "fraction x from 0 to 1\nyesno u\nfraction y from 0 to 1\nyesno v\n"


def subsets(names):
    """All sets of names, by size and then by places."""
    return [part for size in range(len(names) + 1) for part in combinations(names, size)]


def least_ones(sets):
    return tuple(one for one in sets if not any(set(other) < set(one) for other in sets))


def shares_with_each(one, sets):
    return all(set(one) & set(other) for other in sets)


class AtLeastTest(unittest.TestCase):
    def check(self, text, number, given):
        """The verdict at an input, of the package and of the reference."""
        model = Model(text)
        found = at_least(model, ratio(number))
        self.assertIs(type(found), Model)
        self.assertTrue(found.text.startswith(text + "\n"))
        last = found.text[len(text) + 1:]
        self.assertNotIn("\n", last)
        self.assertEqual((found.tells, found.classes), ("class", ("yes", "no")))
        name = found.names[-1]
        pieces = [piece for row in found.text.split("\n") for piece in row.split(" ")]
        self.assertEqual(pieces.count(name), 1)
        self.assertEqual(found.names[:-1], model.names)
        expected = "yes" if told_at(text, given) >= number else "no"
        self.assertEqual(told_at(found.text, given), expected)
        return expected

    def test_below_at_and_above_the_number(self):
        tiny = Fraction(1, 10 ** 50)
        for lines in ("sum f 0 x 1", "hinge f 0 x 1", "leaky f 1/2 0 x 1"):
            for number in (Fraction(3, 7), Fraction(2)):
                self.assertEqual([self.check(X + lines, number + gap, [number]) for gap in (-tiny, 0, tiny, -1, 1)],
                                 ["yes", "yes", "no", "yes", "no"])
        self.assertEqual([self.check(X + "sum f 5", number, [0]) for number in (-5, 5, 6)], ["yes", "yes", "no"])

    def test_integers(self):
        self.assertEqual(at_least(Model(X + "sum f 0 x 1"), 3), at_least(Model(X + "sum f 0 x 1"), Ratio(3)))

    def test_names_that_are_taken(self):
        lines = [f"sum {name} 0" for name in "abcdefghijklmnopqrstuvwyz"]
        self.check(X + "\n".join(lines), 0, [5])
        self.check(X + "\n".join(lines + ["sign s aa bb 0", "sum t 1"]).replace("sum s 0\n", "").replace("sum t 0\n", ""),
                   1, [5])
        self.check("fraction a\nyesno b\nrules c\nif d 0 a 1\nelse e\nhinge f 0 a 1 b -1", 1, [2, 1])
        self.check("fraction yes\nsum no 0 yes 1", 2, [3])

    def test_many_models(self):
        rng = random.Random(211)
        many = 0
        for text in some_texts(rng, 150, 3):
            if Model(text).tells == "number":
                many += 1
                given = fractions(random_given(rng, text))
                for number in (told_at(text, given), Fraction(rng.randint(-5, 5), 3)):
                    self.check(text, number, given)
        self.assertGreater(many, 50)

    def test_the_order_of_errors(self):
        lines = [f"sum {one}{other} 0" for one in "abcd" for other in "abcdefghij"]
        full = Model(X + "\n".join(lines))
        deep = "highest h " + " , ".join(["0"] * 41)
        both = Model(X + "\n".join([deep] + lines[1:]))
        told = Model(X + "\n".join([deep] + lines[2:] + ["rules r\nelse no"]))
        long = Ratio(10 ** 4000)
        for number in (long, 1, None, "1"):
            check_raised(self, Unlike, {"what": "kind"}, at_least, told, number)
        for number in NO_NUMBERS:
            for model in (full, both, Model(X + deep)):
                check_raised(self, BadNumber, {"what": "ratio", "number": number}, at_least, model, number)
        for model in (full, both):
            for number in (long, 1):
                check_raised(self, TooLarge, {"what": "lines", "many": 41, "limit": 40}, at_least, model, number)
        for number in (long, 1):
            check_raised(self, TooLarge, {"what": "switches", "many": 41, "limit": 40}, at_least, Model(X + deep), number)
        near = Model(X + "\n".join(["highest h " + " , ".join(["0"] * 40)] + lines[2:]))
        for number, digits in [(long, 4001), (Ratio(1, 10 ** 4000), 4001), (Ratio(-(10 ** 4100)), 4101)]:
            check_raised(self, TooLong, {"digits": digits}, at_least, near, number)
        self.assertEqual(at_least(near, Ratio(10 ** 4000 - 1)).switches, 40)
        self.assertEqual(len(at_least(near, 1).names), 40)


class ReasonsTest(unittest.TestCase):
    def check_turned(self, text, given, names):
        """Whether the set is turning, by evaluating the input."""
        found = turned(Model(text), given, names)
        if found is None:
            return False
        own = check_given(self, text, found)
        for name, here, there in zip(Text(text).names, own, fractions(given)):
            if name not in names:
                self.assertEqual(here, there)
        self.assertNotEqual(told_at(text, own), told_at(text, fractions(given)))
        return True

    def check_enough(self, text, given, names):
        """Whether the set is enough, by adding up leaf by leaf."""
        model = Model(text)
        papers = enough_papers(model, given, names)
        if papers is None:
            return False
        self.assertIs(type(papers), tuple)
        apart = Text(text)
        told = dict(zip(apart.names, fractions(given)))
        verdict = told_at(text, fractions(given))
        leaves = unfolded(model).leaves
        self.assertEqual([number for number, _ in papers],
                         [at for at, leaf in enumerate(leaves) if leaf.told[0] != verdict])
        for pair in papers:
            self.assertEqual((type(pair), type(pair[0])), (tuple, int))
            leaf = leaves[pair[0]]
            settings = dict(zip(apart.yesnos, leaf.settings))
            if any(name in names and settings[name] != told[name] for name in apart.yesnos):
                self.assertIsNone(pair[1])
            else:
                check_empty_weights(self, pair[1], self.put_in(apart, told, names, leaf))
        return True

    def put_in(self, apart, told, names, leaf):
        rows = []
        for part, strict in leaf.place.rows:
            fixed, *slopes = numbers(part)
            left = []
            for name, slope in zip(apart.fractions, slopes):
                if name in names:
                    fixed += slope * told[name]
                else:
                    left.append(slope)
            rows.append((fixed, *left, ">" if strict else ">="))
        return place(len([name for name in apart.fractions if name not in names]), *rows)

    def reasons(self, text, given):
        """Both lists, after all sets of features are tried out."""
        found = reasons(Model(text), given)
        self.assertIs(type(found), Reasons)
        names = Text(text).names
        turning, enough = [], []
        for part in subsets(names):
            rest = [name for name in names if name not in part]
            turns = self.check_turned(text, given, part)
            self.assertEqual(self.check_enough(text, given, rest), not turns)
            if turns:
                turning.append(part)
            else:
                enough.append(tuple(rest))
        enough = [part for part in subsets(names) if part in enough]
        self.assertEqual(found.turning, least_ones(turning))
        self.assertEqual(found.enough, least_ones(enough))
        self.check_duals(names, found)
        return found.enough, found.turning

    def check_duals(self, names, found):
        for kept in (found.enough, found.turning):
            self.assertIs(type(kept), tuple)
            self.assertTrue(all(type(part) is tuple for part in kept))
        sharing = [part for part in subsets(names) if shares_with_each(part, found.turning)]
        self.assertEqual(found.enough, least_ones(sharing))
        if found.turning:
            sharing = [part for part in subsets(names) if shares_with_each(part, found.enough)]
            self.assertEqual(found.turning, least_ones(sharing))

    def test_no_one_and_all_features_matter(self):
        middle = ratios(Fraction(1, 2), 1, Fraction(1, 3), 0)
        self.assertEqual(self.reasons(MIXED + "sign s no yes 1", middle), (((),), ()))
        self.assertEqual(self.reasons(MIXED + "sign s no yes -2 x 1 y 1", middle), (((),), ()))
        self.assertEqual(self.reasons(MIXED + "sign s no yes -1/3 y 1", middle), ((("y",),), (("y",),)))
        self.assertEqual(self.reasons(MIXED + "sign s no yes -1/2 u 1", middle), ((("u",),), (("u",),)))
        self.assertEqual(self.reasons(MIXED + "sign s no yes 0 v 1", middle), ((("v",),), (("v",),)))
        # All four have to be great together.
        every = MIXED + "sign s no yes -7/2 x 1 u 1 y 1 v 1"
        self.assertEqual(self.reasons(every, ratios(1, 1, 1, 1)),
                         ((("x", "u", "y", "v"),), (("x",), ("u",), ("y",), ("v",))))
        self.assertEqual(self.reasons(every, ratios(0, 0, 0, 0)),
                         ((("x",), ("u",), ("y",), ("v",)), (("x", "u", "y", "v"),)))

    def test_several_sets(self):
        any_two = "yesno a\nyesno b\nyesno c\nsign s no yes -3/2 a 1 b 1 c 1"
        pairs = (("a", "b"), ("a", "c"), ("b", "c"))
        self.assertEqual(self.reasons(any_two, ratios(1, 1, 1)), (pairs, pairs))
        self.assertEqual(self.reasons(any_two, ratios(1, 1, 0)), ((("a", "b"),), (("a",), ("b",))))
        # One feature alone is enough, and so are two others together.
        text = SQUARE + "yesno u\nrules r\nif yes -1/2 u 1\nif yes -1/2 x 1 , -1/2 y 1\nelse no"
        self.assertEqual(self.reasons(text, ratios(1, 1, 1)), ((("u",), ("x", "y")), (("x", "u"), ("y", "u"))))
        self.assertEqual(self.reasons(text, ratios(1, 1, 0)), ((("x", "y"),), (("x",), ("y",))))
        self.assertEqual(self.reasons(text, ratios(0, 0, 0)), ((("x", "u"), ("y", "u")), (("u",), ("x", "y"))))

    def test_only_inputs_within_the_ranges_count(self):
        for features, expected in [(X, ((("x",),), (("x",),))), ("fraction x from 0 to 1\n", (((),), ())),
                                   ("fraction x to 2\n", (((),), ())), ("fraction x from 1\n", ((("x",),), (("x",),)))]:
            self.assertEqual(self.reasons(features + "sign s no yes -2 x 1", ratios(1)), expected)

    def test_thin_leaves(self):
        dot = SQUARE + "tree t\nask 0 x 1 y -1\nask 0 x -1 y 1\nclass dot\nclass off\nclass off"
        half = ratios(Fraction(1, 2), Fraction(1, 2))
        self.assertEqual(self.reasons(dot, half), ((("x", "y"),), (("x",), ("y",))))
        self.assertEqual(self.reasons(dot, ratios(0, 1)), ((("x", "y"),), (("x",), ("y",))))
        dot = SQUARE + "tree t\nask -1/2 x 1\nask 1/2 x -1\nclass dot\nclass off\nclass off"
        self.assertEqual(self.reasons(dot, half), ((("x",),), (("x",),)))
        self.assertEqual(self.reasons(dot, ratios(1, 1)), ((("x",),), (("x",),)))

    def test_many_models(self):
        rng = random.Random(212)
        turning, without = 0, 0
        for text in some_texts(rng, 120, 3):
            if Model(text).tells == "class":
                _, found = self.reasons(text, random_given(rng, text))
                turning += bool(found)
                without += not found
        self.assertGreater(min(turning, without), 10)

    def test_more_features(self):
        rng = random.Random(213)
        sizes = set()
        for turn in range(16):
            names = "xyzuvw"[:2 + turn % 2] + "uvw"[:1 + turn % 3]
            rows = [f"yesno {name}" if name in "uvw" else f"fraction {name} from 0 to 1" for name in names]
            shares = " ".join(f"{name} {rng.choice([-2, -1, 1, 2, 3])}" for name in names)
            rows += [f"hinge a -1/2 {shares}", f"sign s no yes {rng.choice(['-1/2', '-1', '-2'])} x 1 a 1"]
            text = "\n".join(rows)
            enough, turning = self.reasons(text, random_given(rng, text))
            sizes |= {len(part) for part in enough + turning}
        self.assertGreater(len(sizes), 3)

    def test_names_in_any_order_as_a_tuple_and_as_a_list(self):
        text = MIXED + "sign s no yes -7/2 x 1 u 1 y 1 v 1"
        model, given = Model(text), ratios(0, 0, 0, 0)
        for names in (["x", "u"], ("x", "u"), ["u", "x"], ("u", "x"), ["v"], (), []):
            self.assertEqual(self.check_enough(text, given, names), len(names) > 0)
            self.assertFalse(self.check_turned(text, given, names))
            before = list(names)
            self.assertEqual(enough_papers(model, given, names) is None, len(names) == 0)
            self.assertEqual(list(names), before)
        for names in (["v", "y", "u", "x"], ("y", "x", "v", "u")):
            self.assertTrue(self.check_turned(text, given, names))
        # Integers stand for ratios in an input.
        self.assertEqual(reasons(model, (0, 0, 0, 0)).enough, reasons(model, given).enough)

    def test_the_verdict_alone_is_met(self):
        text = X + "rules r\nelse no"
        self.assertEqual(enough_papers(Model(text), (0,), []), ())
        self.assertEqual(enough_papers(Model(text), (0,), ["x"]), ())
        self.assertIsNone(turned(Model(text), (0,), ["x"]))

    def test_the_order_of_errors(self):
        number, told = Model(MIXED + "sum f 0 x 1"), Model(MIXED + "sign s no yes 0 x 1")
        calls = [lambda model, given, names: reasons(model, given), enough_papers, turned]
        for call in calls:
            for given in ((0, 0, 0, 0), (2, 0, 0, 0), None, "0000"):
                check_raised(self, Unlike, {"what": "kind"}, call, number, given, ["z", "x", "x"])
            for given in ((2, 0, 0, 0), (0, 2, 0, 0), (0, 0, 0), [0, 0, 0, 0], (True, 0, 0, 0), None, 1.5, "0000", (),
                          (0, Ratio(1, 2), 0, 0)):
                check_raised(self, BadGiven, {"what": "given"}, call, told, given, ["z", "x", "x"])
        given = (0, 0, 0, 0)
        for call in (enough_papers, turned):
            for name in ("s", "z", "", "X", *NO_NUMBERS, ("x",), ["x"]):
                check_raised(self, NoFeature, {"name": name}, call, told, given, [name])
                check_raised(self, NoFeature, {"name": name}, call, told, given, ["x", "u", "x", name, "zz"])
                check_raised(self, NoFeature, {"name": name}, call, told, given, (name, name))
            for names, name in [(["x", "x"], "x"), (["x", "u", "u", "x"], "u"), (("v", "x", "v", "x"), "v"),
                                (["x", "u", "y", "v", "y"], "y")]:
                check_raised(self, BadName, {"name": name}, call, told, given, names)

    def test_asked_again(self):
        rng = random.Random(214)
        text = SQUARE + "yesno u\nhinge a -1 x 1 y 1\nsign s no yes -1/4 u 1/4 a 1"
        model, given = Model(text), random_given(rng, text)
        first = [reasons(model, given).enough, enough_papers(model, given, ["x", "u"]), turned(model, given, ["x", "y"])]
        again = [reasons(model, given).enough, enough_papers(model, given, ["x", "u"]), turned(model, given, ["x", "y"])]
        self.assertEqual(first, again)
        self.assertEqual(model.text, text)
        self.assertEqual([type(item) for item in given], [Ratio] * 3)
        self.assertTrue(all(fraction(item) >= 0 for item in given))


if __name__ == "__main__":
    unittest.main()
