import random
import unittest
from fractions import Fraction

from checking import NO_NUMBERS, check_raised, check_ratio, check_tuple_of_ratios, ratio
from hingeworks.errors import BadNumber, BadTable, TooLarge, TooLong, TooMany, Unlike
from hingeworks.features import Features
from hingeworks.models import Model
from hingeworks.ratios import Ratio
from hingeworks.tables import Table
from hingeworks.working import worked
from learning import near_class, random_given, random_table, rows_of, table

MIXED = "fraction x from 0 to 1 by 1/2\nyesno u\nfraction y"
X = "fraction x"
HALF = Fraction(1, 2)


class TableTest(unittest.TestCase):
    def test_what_a_table_has(self):
        features = Features(MIXED)
        one = Table(features, [((0, 1, 5), 3), ((Ratio(1, 2), Ratio(0), -2), Ratio(1, 3))])
        self.assertIs(one.features, features)
        self.assertEqual((one.tells, one.classes), ("number", ()))
        self.assertIs(type(one.rows), tuple)
        for pair in one.rows:
            self.assertEqual((type(pair), len(pair)), (tuple, 2))
            check_tuple_of_ratios(self, pair[0], 3)
            check_ratio(self, pair[1])
        self.assertEqual(rows_of(one), [((0, 1, 5), 3), ((HALF, 0, -2), Fraction(1, 3))])
        two = Table(features, [((0, 1, 5), "no"), ((1, 1, 5), "yes"), ((1, 0, 5), "no"), ((0, 1, 5), "abcdefghijkl")])
        self.assertEqual((two.tells, two.classes), ("class", ("no", "yes", "abcdefghijkl")))
        self.assertEqual([label for _, label in two.rows], ["no", "yes", "no", "abcdefghijkl"])
        empty = Table(features, [])
        self.assertEqual((empty.rows, empty.tells, empty.classes), ((), None, ()))

    def test_equal_tables(self):
        rows = [((0, 1, 5), 3), ((1, 0, 2), Ratio(1, 2))]
        one = Table(Features(MIXED), rows)
        self.assertTrue(one == Table(Features(MIXED), tuple(rows)))
        self.assertTrue(one == Table(Features(MIXED), [((Ratio(0), 1, 5), Ratio(3)), ((1, 0, 2), Ratio(2, 4))]))
        self.assertFalse(one != Table(Features(MIXED), rows))
        for features, other in [(MIXED, rows[::-1]), (MIXED, rows[:1]), (MIXED, []), (MIXED, rows + rows), (MIXED + " by 2", rows),
                                (MIXED, [((0, 1, 5), 3), ((1, 0, 2), 1)]), (MIXED, [((0, 1, 5), "no"), ((1, 0, 2), "no")])]:
            self.assertFalse(one == Table(Features(features), other))
        for value in (None, 0, rows, tuple(rows), one.features, "x", object()):
            self.assertIs(one == value, False)
        self.assertTrue(Table(Features(X), []) == Table(Features(X), []))

    def test_lists_that_are_changed_behind_the_call(self):
        rows = [((0,), 1), ((1,), 2)]
        one = Table(Features(X), rows)
        rows.append(((2,), 3))
        rows[0] = ((9,), 9)
        self.assertEqual(rows_of(one), [((0,), 1), ((1,), 2)])
        numbers = [1]
        other = one.taken_out(numbers)
        numbers[0] = 0
        self.assertEqual(rows_of(other), [((0,), 1)])

    def test_an_input_may_stand_twice(self):
        one = table(X, (0, "a"), (0, "b"), (0, "a"))
        self.assertEqual((len(one.rows), one.classes), (3, ("a", "b")))

    def test_sixty_rows(self):
        features = Features(X)
        rows = [((number,), number) for number in range(60)]
        one = Table(features, rows)
        self.assertEqual(len(one.rows), 60)
        for more in (rows + [((0,), 0)], rows + [None], [None] * 61):
            check_raised(self, TooMany, {"what": "rows", "many": 61, "limit": 60}, Table, features, more)
        check_raised(self, TooMany, {"what": "rows", "many": 61, "limit": 60}, one.put_in, (0,), 0)
        check_raised(self, TooMany, {"what": "rows", "many": 61, "limit": 60}, one.put_in, None, None)
        check_raised(self, TooMany, {"what": "rows", "many": 100, "limit": 60}, Table, features, [None] * 100)
        check_raised(self, BadTable, {"row": 59}, Table, features, rows[:59] + [None])

    def test_the_number_of_the_first_wrong_row(self):
        features = Features(MIXED)
        good = ((0, 1, 5), 3)
        wrong = [None, 1, "row", (), (good,), [(0, 1, 5), 3], ((0, 1, 5), 3, 3), ([0, 1, 5], 3), ((0, 1), 3), ((0, 1, 5, 1), 3), ((2, 1, 5), 3),
                 ((-1, 1, 5), 3), ((0, 2, 5), 3), ((0, Ratio(1, 2), 5), 3), ((True, 1, 5), 3), ((0, 1, 1.0), 3), (None, 3)]
        wrong += [((0, 1, 5), label) for label in (*NO_NUMBERS, "A", "abcdefghijklm", "a b", ["no"])]
        for row in wrong:
            for rows, number in [([row], 0), ([good, row], 1), ([good, good, row, None], 2), ((good, row, row), 1)]:
                check_raised(self, BadTable, {"row": number}, Table, features, rows)
            check_raised(self, BadTable, {"row": 0}, Table, features, [row, good])
            if isinstance(row, tuple) and len(row) == 2:
                check_raised(self, BadTable, {"row": 2}, Table(features, [good, good]).put_in, *row)
                check_raised(self, BadTable, {"row": 0}, Table(features, []).put_in, *row)

    def test_labels_of_two_kinds(self):
        features = Features(X)
        for rows, number in [([((0,), 1), ((0,), "a")], 1), ([((0,), "a"), ((0,), 1)], 1), ([((0,), "a"), ((0,), "b"), ((0,), Ratio(1, 2))], 2),
                             ([((0,), 1), ((0,), "a"), None], 1), ([((0,), 1), None, ((0,), "a")], 1)]:
            check_raised(self, BadTable, {"row": number}, Table, features, rows)
        check_raised(self, BadTable, {"row": 1}, table(X, (0, 1)).put_in, (0,), "a")
        check_raised(self, BadTable, {"row": 1}, table(X, (0, "a")).put_in, (0,), 1)

    def test_rows_put_in(self):
        one = table(MIXED, (0, 1, 5, 3))
        other = one.put_in((1, 0, Ratio(1, 2)), 4)
        self.assertIs(type(other), Table)
        self.assertEqual(rows_of(other), [((0, 1, 5), 3), ((1, 0, HALF), 4)])
        self.assertEqual(rows_of(one), [((0, 1, 5), 3)])
        self.assertEqual(other.features, one.features)
        first = Table(Features(X), []).put_in((2,), "no")
        self.assertEqual((first.tells, first.classes), ("class", ("no",)))
        self.assertEqual(first.put_in((2,), "yes").put_in((2,), "no").classes, ("no", "yes"))

    def test_rows_taken_out(self):
        one = table(X, *[(number, label) for number, label in enumerate("abcab")])
        for numbers, left in [([], [0, 1, 2, 3, 4]), ([1], [0, 2, 3, 4]), ([4, 0], [1, 2, 3]), ((2, 1, 3), [0, 4]), ([4, 3, 2, 1, 0], []),
                              ((0, 1, 2, 3, 4), [])]:
            before = list(numbers)
            other = one.taken_out(numbers)
            self.assertEqual([int(given[0]) for given, _ in rows_of(other)], left)
            self.assertEqual(list(numbers), before)
        self.assertEqual(one.taken_out([0]).classes, ("b", "c", "a"))
        self.assertEqual((one.taken_out([0, 1, 2, 3, 4]).tells, len(one.rows)), (None, 5))
        for numbers, number in [([5], 5), ([0, -1], -1), ([0, 0], 0), ([1, 2, 1, 7], 1), ([3, 9, 3], 9), ((0, 1, 2, 3, 4, 0), 0), ([2, Ratio(1)], Ratio(1))]:
            check_raised(self, BadNumber, {"what": "row", "number": number}, one.taken_out, numbers)
        for number in NO_NUMBERS:
            check_raised(self, BadNumber, {"what": "row", "number": number}, one.taken_out, [1, number, 1])
        check_raised(self, BadNumber, {"what": "row", "number": 0}, Table(Features(X), []).taken_out, [0])


class NeighboursTest(unittest.TestCase):
    def test_the_text(self):
        one = table(MIXED, (0, 1, 5, "no"), (HALF, 0, Fraction(-1, 3), "yes"), (1, 1, 0, "no"))
        for many in (1, 2, 3):
            found = one.neighbours(many)
            self.assertIs(type(found), Model)
            self.assertEqual(found.text, MIXED + f"\nnear learned {many} x 1/2 u 1 y 1\nrow no 0 1 5\nrow yes 1/2 0 -1/3\nrow no 1 1 0")

    def test_names(self):
        for names, expected in [(["x"], "learned"), (["learned"], "learneda"), (["learneda", "learned"], "learnedb"), (["learneda"], "learned"),
                                (["learned", "learnedb"], "learneda"), (["learned", "learneda", "learnedb", "learnedc", "learnedd", "learnede"], "learnedf")]:
            features = "\n".join(f"fraction {name}" for name in names)
            one = table(features, (*[0] * len(names), "no"))
            self.assertEqual(one.neighbours(1).names, (expected,))

    def test_the_verdicts(self):
        rng = random.Random(551)
        for turn in range(60):
            features = ["fraction x by 2\nfraction y", "yesno u by 1/2\nfraction x", X][turn % 3]
            one = random_table(rng, features, rng.randint(3, 9), ["a", "b", "c"], 2)
            for many in (1, 2, 3):
                given = random_given(rng, features, 2)
                told = worked(one.neighbours(many), tuple(ratio(item) for item in given)).told
                self.assertEqual(told, near_class(features, rows_of(one), given, many))

    def test_as_many_rows_and_one_fewer(self):
        rows = [(0, "a"), (1, "b"), (2, "a")]
        for many in (1, 2, 3):
            self.assertEqual(table(X, *rows[:many]).neighbours(many).kind_of("learned"), "near")
            if many > 1:
                check_raised(self, TooLarge, {"what": "neighbours", "many": many, "limit": many - 1}, table(X, *rows[:many - 1]).neighbours, many)
        check_raised(self, TooLarge, {"what": "neighbours", "many": 3, "limit": 1}, table(X, (0, "a")).neighbours, 3)

    def test_the_order_of_errors(self):
        for one in (Table(Features(X), []), table(X, (0, 1)), table(X, *[(number, number) for number in range(60)])):
            for many in (1, 0, 4, None):
                check_raised(self, Unlike, {"what": "kind"}, one.neighbours, many)
        long = 10 ** 4000
        few, much = table(X, (long, "a")), table(X, *[(long + number, "a") for number in range(60)])
        for one in (few, much):
            for many in (0, 4, -1, Ratio(1), Ratio(2), *NO_NUMBERS):
                check_raised(self, BadNumber, {"what": "many", "number": many}, one.neighbours, many)
        check_raised(self, TooLarge, {"what": "neighbours", "many": 2, "limit": 1}, few.neighbours, 2)
        for many, switches in [(1, 59), (2, 117), (3, 174)]:
            check_raised(self, TooLarge, {"what": "switches", "many": switches, "limit": 40}, much.neighbours, many)
        check_raised(self, TooLong, {"digits": 4001}, few.neighbours, 1)
        for many, rows in [(1, 41), (2, 21), (3, 15)]:
            one = table(X, *[(number, "a") for number in range(rows)])
            self.assertLessEqual(one.neighbours(many).switches, 40)
            self.assertRaises(TooLarge, one.put_in((0,), "a").neighbours, many)

    def test_numbers_that_are_too_long(self):
        long = 10 ** 3999
        one = table("fraction x\nfraction y", (long, Fraction(-1, long), "a"))
        self.assertEqual(one.neighbours(1).switches, 0)
        for given, digits in [((0, 10 * long), 4001), ((Ratio(1, 10 ** 4005), 10 ** 4100), 4006), ((-10 ** 4100, Ratio(1, 10 ** 4005)), 4101)]:
            check_raised(self, TooLong, {"digits": digits}, one.put_in(given, "b").neighbours, 1)
            check_raised(self, TooLong, {"digits": digits}, one.put_in(given, "b").put_in((10 ** 5000, 0), "b").neighbours, 1)


if __name__ == "__main__":
    unittest.main()
