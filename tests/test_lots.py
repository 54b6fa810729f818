import random
import unittest
from fractions import Fraction

from checking import NO_NUMBERS, check_raised, ratio
from hingeworks.errors import BadGiven, BadNumber, NotFull, TooLarge, TooLong, TooMany, Unlike
from hingeworks.features import Features
from hingeworks.lots import Lots, least_lot, lots, verdict_of
from hingeworks.ratios import Ratio
from hingeworks.squares import least_squares
from hingeworks.tables import Table
from hingeworks.working import worked
from learning import near_class, product, random_given, random_number, random_table, rows_of, square_line, subsets, table

X = "fraction x"
PLANE = "fraction x\nfraction y"
EMPTY = Table(Features(X), [])
LINE = table(X, (0, 1), (1, 3), (2, 2))
CLASSES = table(X, (0, "a"), (1, "b"), (2, "a"))


def learned(one, given, learner):
    """The verdict learned from a table, worked out with Fractions; None if nothing can be learned."""
    rows = rows_of(one)
    if learner[0] == "near":
        return near_class(one.features.text, rows, given, learner[1]) if len(rows) >= learner[1] else None
    line = square_line(rows, Fraction(learner[2]))
    return None if line is None else line[0] + product(line[1:], given) >= learner[1]


def as_learner(learner):
    return (learner[0], *[ratio(item) if learner[0] == "straight" else item for item in learner[1:]])


class LotsTest(unittest.TestCase):
    def check(self, one, given, learner):
        """The verdict and all lots of every size, by learning without each."""
        own = tuple(ratio(item) for item in given)
        verdict = verdict_of(one, own, as_learner(learner))
        self.assertEqual(verdict, learned(one, given, learner))
        self.assertIs(type(verdict), bool if learner[0] == "straight" else str)
        many = len(one.rows)
        turning, dull = [], []
        for lot in subsets(many)[1:]:
            other = learned(one.taken_out(lot), given, learner)
            if other is None:
                dull.append(lot)
            elif other != verdict:
                turning.append(lot)
        for most in (1, 2, many, many + 1, 10 ** 30):
            found = lots(one, own, most, as_learner(learner))
            self.assertIs(type(found), Lots)
            self.assertEqual(found.turning, tuple(lot for lot in turning if len(lot) <= most))
            self.assertEqual(found.dull, tuple(lot for lot in dull if len(lot) <= most))
        self.assertEqual(least_lot(one, own, as_learner(learner)), turning[0] if turning else None)
        return turning, dull

    def test_straight(self):
        # 2 at 1; without the first row 3, without the second one 3/2, without the third one 3.
        turning, dull = self.check(LINE, [1], ("straight", 2, 0))
        self.assertEqual((turning, dull), ([(1,)], [(0, 1), (0, 2), (1, 2), (0, 1, 2)]))
        turning, dull = self.check(LINE, [1], ("straight", 2, 1))
        self.assertEqual((turning, dull), ([(1,), (1, 2)], [(0, 1, 2)]))
        self.assertEqual(self.check(LINE, [1], ("straight", 4, 0))[0], [])
        self.assertEqual(self.check(table(X, (0, 1)), [1], ("straight", 1, 1)), ([], [(0,)]))

    def test_verdicts_at_the_ratio(self):
        tiny = Fraction(1, 10 ** 40)
        for bound, verdict in [(2, True), (2 + tiny, False), (2 - tiny, True), (-5, True), (5, False)]:
            self.assertIs(verdict_of(LINE, (1,), ("straight", ratio(bound), 0)), verdict)
            self.check(LINE, [1], ("straight", bound, 0))

    def test_near(self):
        turning, dull = self.check(CLASSES, [0], ("near", 1))
        self.assertEqual((turning, dull), ([(0,), (0, 2)], [(0, 1, 2)]))
        turning, dull = self.check(CLASSES, [0], ("near", 2))
        self.assertEqual((turning, dull), ([(0,)], [(0, 1), (0, 2), (1, 2), (0, 1, 2)]))
        self.assertEqual(self.check(CLASSES, [0], ("near", 3)), ([], [(0,), (1,), (2,), (0, 1), (0, 2), (1, 2), (0, 1, 2)]))
        # A larger lot need not turn a verdict that a lot within it turns.
        turning, _ = self.check(table(X, (0, "a"), (1, "b"), (2, "a"), (3, "b")), [0], ("near", 1))
        self.assertIn((0,), turning)
        self.assertNotIn((0, 1), turning)
        self.assertIn((0, 2), turning)

    def test_units_and_equal_distances(self):
        one = table("fraction x by 2\nfraction y", (2, 0, "a"), (0, 1, "b"), (0, -1, "a"), (-2, 0, "b"))
        for many in (1, 2, 3):
            self.check(one, [0, 0], ("near", many))

    def test_many_tables(self):
        rng = random.Random(631)
        kinds = {"turning": 0, "dull": 0, "none": 0}
        for turn in range(60):
            straight = turn % 2 == 0
            features = [X, PLANE, "yesno u by 1/2\nfraction x by 3"][turn % 3]
            one = random_table(rng, features, rng.randint(3, 6), None if straight else ["a", "b", "c"], 2)
            learner = ("straight", random_number(rng), rng.choice([0, 0, 1, Fraction(1, 3)])) if straight else ("near", rng.randint(1, 3))
            given = random_given(rng, features)
            if learned(one, given, learner) is not None:
                turning, dull = self.check(one, given, learner)
                kinds["turning"] += len(turning)
                kinds["dull"] += len(dull)
                kinds["none"] += not turning
        self.assertGreater(min(kinds.values()), 8)

    def test_numbers_of_any_length(self):
        long = 10 ** 4100
        one = table(X, (0, long), (1, 1), (2, Fraction(-1, long)))
        self.assertRaises(TooLong, least_squares, one)
        self.assertIs(verdict_of(one, (0,), ("straight", 0, 0)), True)
        # Only without the first row the score is less; without another one the line goes through the first one.
        self.assertEqual(lots(one, (0,), 1, ("straight", 3, 0)).turning, ((0,),))
        self.assertEqual(lots(one, (0,), 1, ("straight", Ratio(long), 0)).turning, ((1,), (2,)))
        self.assertEqual(least_lot(one, (0,), ("straight", 3, 0)), (0,))

    def test_twelve_rows_and_thirteen(self):
        rng = random.Random(632)
        number = random_table(rng, PLANE, 12, None)
        found = lots(number, (1, 1), 12, ("straight", 0, 0))
        self.assertEqual((found.dull[-1], len(set(found.turning) & set(found.dull))), (tuple(range(12)), 0))
        told = random_table(rng, PLANE, 12, ["a", "b"])
        for many in (1, 2, 3):
            found = lots(told, (1, 1), 12, ("near", many))
            self.assertEqual(len(found.dull), {1: 1, 2: 13, 3: 79}[many])
            self.assertEqual(least_lot(told, (1, 1), ("near", many)), found.turning[0])
        more = number.put_in((0, 0), 1)
        self.assertIsInstance(verdict_of(more, (1, 1), ("straight", 0, 0)), bool)
        for one, learner in [(more, ("straight", 0, 0)), (told.put_in((0, 0), "a"), ("near", 1)), (table(PLANE, *[(0, 0, 1)] * 13), ("straight", 0, 0)),
                             (table(PLANE, *[(0, 0, "a")] * 60), ("near", 3))]:
            many = len(one.rows)
            check_raised(self, TooMany, {"what": "rows", "many": many, "limit": 12}, lots, one, (1, 1), 1, learner)
            check_raised(self, TooMany, {"what": "rows", "many": many, "limit": 12}, least_lot, one, (1, 1), learner)

    def calls(self, one, given, learner, most=1):
        return [lambda: verdict_of(one, given, learner), lambda: lots(one, given, most, learner), lambda: least_lot(one, given, learner)]

    def test_values_that_are_no_learner(self):
        for learner in (None, "near", ("near",), (), ("near", 1, 0), ["near", 1], ("straight", 0), ("straight", 0, 0, 0), ["straight", 0, 0], ("straight",),
                        ("Near", 1), (1, "near"), ("other", 1), (None, 1), (["near"], 1), 5, {"near": 1}, object(), ("straight", "near")):
            for one in (EMPTY, LINE, CLASSES, table(X, *[(0, "a")] * 13)):
                for call in self.calls(one, None, learner, 0):
                    check_raised(self, Unlike, {"what": "learner"}, call)

    def test_the_order_of_errors(self):
        much, classes = table(X, *[(5, 1)] * 13), table(X, *[(5, "a")] * 13)
        for one, learner in [(EMPTY, ("straight", None, None)), (EMPTY, ("near", None)), (CLASSES, ("straight", None, -1)), (classes, ("straight", 0, 0)),
                             (LINE, ("near", 0)), (much, ("near", 1))]:
            for call in self.calls(one, None, learner, 0):
                check_raised(self, Unlike, {"what": "kind"}, call)
        for one, learner in [(much, ("straight", None, -1)), (classes, ("near", 0))]:
            for given in (None, (), (0, 0), [5], ("5",), (True,), 5):
                for call in self.calls(one, given, learner, 0):
                    check_raised(self, BadGiven, {"what": "given"}, call)
        for number in NO_NUMBERS:
            for call in self.calls(much, (5,), ("straight", number, -1), 0):
                check_raised(self, BadNumber, {"what": "ratio", "number": number}, call)
        for number in (*NO_NUMBERS, -1, Ratio(-1, 3)):
            for call in self.calls(much, (5,), ("straight", 0, number), 0):
                check_raised(self, BadNumber, {"what": "pull", "number": number}, call)
        for number in (*NO_NUMBERS, 0, 4, -1, Ratio(1)):
            for call in self.calls(classes, (5,), ("near", number), 0):
                check_raised(self, BadNumber, {"what": "many", "number": number}, call)
        for number in (*NO_NUMBERS, 0, -1, Ratio(1)):
            for one, learner in [(much, ("straight", 0, 0)), (classes, ("near", 3)), (table(X, (5, 1)), ("straight", 0, 0))]:
                check_raised(self, BadNumber, {"what": "most", "number": number}, lots, one, (5,), number, learner)
        check_raised(self, NotFull, {"rank": 1}, verdict_of, much, (5,), ("straight", 0, 0))

    def test_what_learning_from_the_whole_table_raises(self):
        for one, rank in [(table(X, (5, 1)), 1), (table(X, (5, 1), (5, 2)), 1), (table(PLANE, (0, 0, 1), (1, 1, 1), (2, 2, 1)), 2)]:
            for call in self.calls(one, (0,) * len(one.features.names), ("straight", 0, 0)):
                check_raised(self, NotFull, {"rank": rank}, call)
            for call in self.calls(one, (0,) * len(one.features.names), ("straight", 0, 1)):
                call()
        for call in self.calls(table(X, (5, "a")), (0,), ("near", 2)):
            check_raised(self, TooLarge, {"what": "neighbours", "many": 2, "limit": 1}, call)
        for call in self.calls(table(X, (10 ** 4000, "a"), (0, "a")), (0,), ("near", 2)):
            check_raised(self, TooLong, {"digits": 4001}, call)
        check_raised(self, TooLarge, {"what": "switches", "many": 41, "limit": 40}, verdict_of, table(X, *[(0, "a")] * 42), (0,), ("near", 1))
        self.assertEqual(verdict_of(table(X, *[(0, "a")] * 41), (0,), ("near", 1)), "a")

    def test_it_is_what_the_learned_model_tells(self):
        rng = random.Random(633)
        for _ in range(20):
            one = random_table(rng, PLANE, 6, None)
            given = tuple(ratio(item) for item in random_given(rng, PLANE))
            told = worked(least_squares(one, 1), given).told
            self.assertEqual(verdict_of(one, given, ("straight", told, 1)), True)
            self.assertEqual(verdict_of(one, given, ("straight", told + Ratio(1, 10 ** 30), 1)), False)
            told = random_table(rng, PLANE, 6, ["a", "b"])
            self.assertEqual(verdict_of(told, given, ("near", 3)), worked(told.neighbours(3), given).told)


if __name__ == "__main__":
    unittest.main()
