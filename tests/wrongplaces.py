"""Texts in which the first wrong place is marked.

"@" stands ahead of a wrong piece, or at the end of a line that ends too early. "~" at the end of a text tells that
the text ends too early.
"""

from checking import check_raised
from hingeworks.errors import BadText


def marked(text):
    """The text without its mark, and the line and the column of the mark."""
    if text.endswith("~"):
        return text[:-1], text.count("\n") + 2, 1
    assert text.count("@") == 1, text
    ahead = text[:text.index("@")]
    return text.replace("@", ""), ahead.count("\n") + 1, len(ahead) - ahead.rfind("\n")


def check_wrong(test, make, text):
    """Making an object of the text without its mark raises BadText with the marked place."""
    plain, line, column = marked(text)
    with test.subTest(text=text if len(text) < 300 else text[:300]):
        check_raised(test, BadText, {"line": line, "column": column}, make, plain)


NINES = "9" * 4000

# Numbers as pieces: which are ratios and which are wrong.
GOOD_NUMBERS = ["0", "1", "-1", "10", "-10", "1/2", "-1/2", "2/3", "-100/7", "7/100", NINES, "-" + NINES,
                "1/" + NINES, "-1/" + NINES, NINES + "/1" + "0" * 3999]
WRONG_NUMBERS = ["", "-", "+1", "+", "-0", "00", "01", "-01", "0/1", "0/2", "-0/1", "1/", "/", "/2", "1/0", "1/1",
                 "-1/1",
                 "2/4", "-2/4", "6/3", "1/02", "1/-2", "1//2", "1/2/3", "1.5", "1e3", "1_000", "x", "1x", "--1", "1-",
                 "1/+2",
                 "1" + NINES, "-1" + NINES, "1/1" + NINES, NINES + "9/2", "\u0661", "\u00b2", "1\t", "\t1", "1\r", ","]

# Names as pieces.
GOOD_NAMES = ["a", "z", "abcdefghijkl", "zzzzzzzzzzzz", "from", "to", "by", "fraction", "yesno", "sum", "hinge",
              "leaky",
              "clip", "highest", "tree", "gate", "sign", "choose", "rules", "near", "votes", "tell", "class", "ask",
              "if",
              "else", "row", "number"]
WRONG_NAMES = ["", "abcdefghijklm", "A", "aB", "a1", "1", "a_b", "_", "-", "a-b", ",", ":", "a,", "\u00e4", "\u0430",
               "a\t",
               "a\r", "a\u00a0b", ".", "a.b"]
