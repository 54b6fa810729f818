import unittest

from checking import NO_NUMBERS, check_raised
from hingeworks.errors import BadText
from hingeworks.features import Features
from hingeworks.models import Model
from wrongplaces import GOOD_NAMES, GOOD_NUMBERS, NINES, WRONG_NAMES, WRONG_NUMBERS, check_wrong

RIGHT = [
    "fraction x", "yesno u", "fraction x from 0", "fraction x to 0", "fraction x by 2", "fraction x from 0 to 1",
    "fraction x from 0 by 2", "fraction x to 0 by 1/2", "fraction x from -1/2 to -1/3 by 7/3", "yesno u by 1/2",
    "fraction from from 1 to 2 by 3", "fraction to to 1", "fraction by by 2", "yesno by by 2", "fraction to",
    "yesno yesno", "fraction fraction", "yesno fraction\nfraction yesno", "fraction x\nyesno u",
    "yesno a\nyesno b\nyesno c", "yesno a\nyesno b\nyesno c\nfraction d\nfraction e\nfraction f",
    "fraction a\nfraction b\nfraction c\nfraction d\nfraction e\nfraction f",
    "fraction a\nyesno b\nfraction c\nyesno d\nfraction e\nyesno f", f"fraction x from -{NINES} to {NINES} by {NINES}",
]

# Wrong in a text of features and in a text of a model.
WRONG = [
    # Blanks, empty lines, newlines.
    "@", "@\nfraction x", "fraction x\n@", "fraction x\n@\nyesno u", "@ fraction x", "fraction @ x", "fraction x @",
    "fraction x @ from 1", "fraction x from @ 1", "fraction x from 1 @", "fraction x\n@ yesno u", "yesno u @",
    "yesno @ u",
    "fraction x from 1 @ to 2", "fraction x by 2 @", "@  fraction x", "fraction x from 1 to 2 by 3 @",
    # First words.
    "@Fraction x", "@fractions x", "@x", "@fraction\tx", "@?", "@from", "@by 2", "@fraction,", "@yes",
    "fraction x\n@x", "fraction x\n@Yesno u", "fraction x\n@from 1", "fraction x\n@?",
    # Lines that end too early.
    "fraction@", "yesno@", "fraction x from@", "fraction x to@", "fraction x by@", "yesno u by@",
    "fraction x from 1 to@",
    "fraction x from 1 by@", "fraction x from 1 to 2 by@", "fraction@\nyesno u", "fraction x\nyesno@",
    "fraction x from@\n?",
    "yesno@\n\n",
    # What stands behind the name.
    "fraction x @1", "fraction x @x", "fraction x @From 1", "fraction x from 1 @from 2", "fraction x from 1 @2",
    "fraction x to 1 @from 0", "fraction x to 1 @to 2", "fraction x by 2 @from 0", "fraction x by 2 @to 0",
    "fraction x by 2 @by 2", "fraction x from 0 to 1 by 2 @?", "fraction x from 0 by 2 @to 1", "yesno u @from 0",
    "yesno u @to 1", "yesno u @1", "yesno u by 2 @2", "yesno u by 2 @by 3", "yesno u @u",
    # Ends: A is below B.
    "fraction x from 1 to @1", "fraction x from 1 to @0", "fraction x from 1/2 to @1/3", "fraction x from -1 to @-2",
    "fraction x from 1/2 to @1/2", "fraction x from 0 to @-1/1000", f"fraction x from {NINES} to @{NINES}",
    f"fraction x from {NINES} to @1", f"fraction x from {NINES} to @{NINES}/2", f"fraction x from {NINES} to@",
    f"fraction x from {NINES} to @", f"fraction x from {NINES} to @?", f"fraction x from {NINES} to @1{NINES}",
    # Units: above 0 and not 1.
    "fraction x by @1", "fraction x by @0", "fraction x by @-1", "fraction x by @-1/2", "yesno u by @1",
    "yesno u by @0",
    "yesno u by @-2", "fraction x from 0 to 1 by @1", "fraction x to 1 by @1", "fraction x from 0 by @0",
    # How many features, and their names.
    "yesno a\nyesno b\nyesno c\n@yesno d", "yesno a\nfraction x\nyesno b\nyesno c\nfraction y\n@yesno d",
    "fraction a\nfraction b\nfraction c\nfraction d\nfraction e\nfraction f\n@fraction g",
    "fraction a\nfraction b\nfraction c\nfraction d\nfraction e\nfraction f\n@yesno g",
    "fraction x\nfraction @x", "fraction x\nyesno @x", "yesno x\nyesno u\nfraction @x by 2", "yesno u\nyesno @u",
    # The first wrong place of several.
    "fraction @X from 1 to 0\nyesno", "fraction x from @01 to 0 by 1", "@frac x\nfrac y",
    "fraction x from 2 to @1 by 1",
    "fraction x by@\n?", "fraction x\nfraction @x to 01",
]


class FeatureTextsTest(unittest.TestCase):
    def test_right_texts(self):
        for text in RIGHT:
            self.assertEqual(Features(text).text, text)
            model = Model(f"{text}\nsum result 0")
            self.assertEqual(model.features, Features(text))

    def test_wrong_texts(self):
        for text in WRONG:
            check_wrong(self, Features, text)
            check_wrong(self, Model, text)
            if not text.endswith("\n@"):
                check_wrong(self, Model, text + "\nsum result 0")

    def test_numbers(self):
        for number in GOOD_NUMBERS:
            for ends in (f"from {number}", f"to {number}"):
                self.assertEqual(Features(f"fraction x {ends}").text, f"fraction x {ends}")
            if number[0] != "-" and number not in ("0", "1"):
                Features(f"fraction x by {number}")
                Features(f"yesno x by {number}")
        for number in WRONG_NUMBERS:
            for start in ("fraction x from ", "fraction x to ", "fraction x by ", "yesno u by ",
                          "fraction x from -1 to ",
                          "fraction x from -1 to 7 by "):
                check_wrong(self, Features, f"{start}@{number}")
                check_wrong(self, Model, f"{start}@{number}\nsum f 0")

    def test_the_limit_of_digits_makes_no_earlier_piece_wrong(self):
        for text in (f"fraction x from {NINES} to@", f"fraction x from {NINES} to @?",
                     f"fraction x from {NINES} to @2"):
            check_wrong(self, Features, text)
        self.assertEqual(Features(f"fraction x from -{NINES} to -{NINES[1:]}").high("x"), -int(NINES[1:]))

    def test_names(self):
        for name in GOOD_NAMES:
            self.assertEqual(Features(f"fraction {name}\nyesno other").names, (name, "other"))
            self.assertEqual(Features(f"yesno {name} by 2").names, (name,))
        for name in WRONG_NAMES:
            check_wrong(self, Features, f"fraction @{name}")
            check_wrong(self, Features, f"fraction x\nyesno @{name}")
            check_wrong(self, Model, f"yesno @{name}\nsum f 0")

    def test_values_that_are_no_strings(self):
        for value in NO_NUMBERS + [1, b"fraction x", ["fraction x"], ("fraction x",), Features("fraction x")]:
            if not isinstance(value, str):
                check_raised(self, BadText, {"line": 1, "column": 1}, Features, value)
                check_raised(self, BadText, {"line": 1, "column": 1}, Model, value)

    def test_only_features(self):
        for line in ("sum f 0", "sign s no yes 0", "near n 1 x 1", "votes", "row", "else", "tell 0"):
            check_wrong(self, Features, f"fraction x\n@{line}")
            check_wrong(self, Features, f"fraction x\nyesno u\n@{line}\n?")
            check_wrong(self, Features, f"@{line}")


if __name__ == "__main__":
    unittest.main()
