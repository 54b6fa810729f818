import random
import unittest
from fractions import Fraction

from checking import check_raised
from hingeworks.errors import BadText, TooLarge
from hingeworks.models import Model
from modeltexts import random_text, some_texts
from wrongplaces import GOOD_NAMES, GOOD_NUMBERS, NINES, WRONG_NAMES, WRONG_NUMBERS, check_wrong

HEAD = "fraction x from 0 to 9\nyesno u\n"
# A value and verdicts that later lines use.
USED = HEAD + "hinge h 0 x 1\nsign s no yes 0 x 1\nsign t no low 0 u 1\n"

RIGHT = [
    "sum f 0", "sum f 0 x 1", "sum f 0 u 1", "sum f -1/2 x 1 u -2/3", "sum f 0\nsum g 0 f 1\nsum k 0 x 1 u 1 f 1 g 1",
    "hinge f 0", "hinge f 1 x 1 u 1", "leaky f 0 0", "leaky f -3/2 1 x 1", "leaky f 1 0 u 1", "clip f 0 1 0",
    "clip f -1 -1/2 1 x 1", "highest f 0 , 0", "highest f 0 x 1 , 0 x 1 , 0 x 1", "highest f 0 x 1 u 1 , 2 , -1 u 1",
    "tree t\ntell 0", "tree t\ntell 0 x 1", "tree t\nclass no", "tree t\nask 0 x 1\ntell 0\ntell 1 u 1",
    "tree t\nask 0\nask 1\nclass no\nclass no\nask 2\nclass yes\nclass no", "sign s no yes 0",
    "sign s no yes 0 x 1 u 1",
    "sign s yes no 0 x 1", "choose c no 0 , yes 0", "choose c no 0 x 1 , yes 1 u 1 , low 0 x 2 u -1",
    "rules r\nelse no", "rules r\nif no 0\nelse no", "rules r\nif no 0 x 1 , 0 , 1\nif no 0 u 1\nif yes 0\nelse low",
    "near n 1 x 1\nrow no 0", "near n 1 u 2\nrow no 0\nrow no 0\nrow yes 1",
    "near n 2 x 1 u 1/2\nrow no 0 1\nrow yes 1/2 0",
    "near n 3 x 1\nrow no 0\nrow no 0\nrow no 0", "sum f 0\nnear n 1 x 1 f 2\nrow no 0 0",
    # Classes may have the names of features, values and verdicts; each name may be a word of the language.
    "sign s x u 0", "sum f 0\nsign s f s 0", "sum sum 0\nsum hinge 0 sum 1", "tree tree\nask 0\nclass class\nclass ask",
    "rules rules\nif if 0\nelse else", "near near 1 x 1\nrow row 0\nrow near 0", "sign sign sign votes 0",
    "sum else 0\nsum row 0 else 1\nsum tell 0\nsum class 0\nsum ask 0", "choose choose choose 0 , to 0",
]
RIGHT_BEHIND = [
    "votes v no yes : s", "votes v yes no : s s s", "votes v no yes low : s t s", "votes v low no : t",
    "votes v other no extra low yes last : s t", "gate g s no h yes h", "gate g s no s yes t", "gate g s no t yes t",
    "gate g t no h low h", "gate g s no s yes s\nvotes v yes no : g s", "votes v no yes : s\ngate g v no h yes h",
    "gate g s no h yes h\nsum f 0 h 1 g 1", "hinge i 0 h 1\ngate g s no h yes i", "gate gate s no h yes h",
    "votes votes no yes : s", "tree a\nclass low\nvotes v low : a a", "rules a\nelse no\ngate g a no a",
]

WRONG = [
    # First words.
    "@", "@ sum f 0", "@x", "@Sum f 0", "@sums f 0", "@?", "@votes v no : s",
    "@gate g s no h", "@row no 0", "@tell 0", "@class no", "@ask 0", "@if no 0", "@else no", "@from 1",
    "sum f 0\n@fraction y", "sum f 0\n@yesno v", "sum f 0\n@votes v no yes : s", "sum f 0\n@gate g f",
    "sum f 0\n@row no 0",
    "sum f 0\n@tell 0", "sum f 0\n@", "sum f 0\n@\nsum g 0", "sum f 0\n@ sum g 0", "sum f 0 @", "sum @ f 0",
    "sum f @ 0",
    "sum f 0 @ x 1", "sum f 0 x @ 1", "tree t\ntell 0\n@tell 0", "rules r\nelse no\n@else no",
    "near n 1 x 1\nrow no 0\n@rows",
    # Names of lines.
    "sum@", "hinge@", "leaky@", "clip@", "highest@", "tree@", "sign@", "choose@", "rules@", "near@", "sum@\nsum f 0",
    "sum @x 0", "sum @u 0", "hinge @x 0", "tree @x\ntell 0", "sign @u no yes 0", "sum f 0\nsum @f 0",
    "sum f 0\nsign @f no yes 0",
    "sign s no yes 0\nsum @s 0", "sign s no yes 0\nsign @s no yes 0", "sum @F 0", "sum @f1 0", "sum @0",
    "sum @abcdefghijklm 0",
    # Planes.
    "sum f@", "sum f@\nsum g 0", "sum f @x", "sum f @x 1", "sum f 0 @1", "sum f 0 @1 x", "sum f 0 @y 1", "sum f 0 @f 1",
    "sum f 0 x@", "sum f 0 x@\nsum g 0", "sum f 0 x @u 1", "sum f 0 x @0", "sum f 0 x 1 u @0", "sum f 0 u 1 @x 1",
    "sum f 0 x 1 @x 1", "sum f 0 x 1 u 1 @u 1", "sum f 0 x 1 u 1 @y 1", "sum f 0 x 1 u 1 @2", "sum f 0 @, 0",
    "sum f 0 x 1 @,",
    "sum f 0\nsum g 0 f 1 @x 1", "sum f 0\nsum g 0 f 1 @f 1", "sum f 0\nsum g 0 @g 1", "sum f 0 @g 1\nsum g 0",
    "sign s no yes 0\nsum f 0 @s 1", "sign s no yes 0\nsum f 0 @no 1", "tree t\nclass no\nsum f 0 @t 1", "sum f 0 @? 1",
    "hinge f@", "hinge f @?", "hinge f 0 x@", "hinge f 0 @, 0", "hinge f 0 x 1 @1",
    # Leaky and clip.
    "leaky f@", "leaky f 0@", "leaky f 1/2@", "leaky f @x 0", "leaky f 0 @x 1", "leaky f 0 0 @0", "leaky f 0 0 x@",
    "clip f@", "clip f 0@", "clip f 0 1@", "clip f @x 0 1 0", "clip f 0 @x", "clip f 0 @0 0", "clip f 0 @-1 0",
    "clip f 1/2 @1/3 0",
    "clip f 1/2 @1/2 0", "clip f 0 1 @x 1", "clip f 0 1 0 @1", "clip f 0 1 0 x@", f"clip f {NINES} @{NINES} 0",
    f"clip f {NINES}@",
    f"clip f {NINES} @1 0",
    # Highest.
    "highest f@", "highest f 0@", "highest f 0 x 1@", "highest f 0 x@", "highest f @, 0", "highest f 0 ,@",
    "highest f 0 , @,",
    "highest f 0 , 0 ,@", "highest f 0 , 0 @0", "highest f 0 x @, 0", "highest f 0 , @x 1",
    "highest f 0 x 1 , 0 x 1 @x 1",
    "highest f 0 @; 0", "highest f 0@\nsum g 0", "highest f 0 , @", "highest f 0 @,, 0", "highest f 0 x 1 u 1 @z 1 , 0",
    # Trees.
    "tree t~", "tree t @0", "tree t @tell 0", "tree t\n@", "tree t\n@sum f 0", "tree t\n@else no", "tree t\ntell@",
    "tree t\nclass@", "tree t\nask@", "tree t\ntell @x", "tree t\nclass @0", "tree t\nclass no @yes",
    "tree t\ntell 0 @, 0",
    "tree t\nask 0~", "tree t\nask 0\ntell 0~", "tree t\nask 0\ntell 0\nask 0\ntell 1~",
    "tree t\nask 0\ntell 0\n@class no",
    "tree t\nask 0\nclass no\n@tell 0", "tree t\nask 0\nask 1\ntell 0\nask 2\n@class no",
    "tree t\nask 0\ntell 0\ntell 1\n@tell 2",
    "tree t\nask 0\ntell 0\n@sum f 0", "tree t\nask 0 @, 1", "tree t\nask 0 x@\ntell 0", "tree t\nask 0 @t 1",
    "tree t\ntell 0 @t 1",
    "tree t\nask 0\n@\ntell 0", "tree t\nclass no\n@class no", "tree t\nask 0 u 1 @x 1",
    "tree t\nask 0\nask 0\nclass a\nclass b~",
    "tree t\nask 0\ntell 0 x@\ntell", "tree t\nTELL 0".replace("T", "@T", 1),
    # Sign and choose.
    "sign s@", "sign s no@", "sign s no yes@", "sign s no @no 0", "sign s no @0", "sign s @0", "sign s no yes @x",
    "sign s no yes @low 0",
    "sign s no yes 0 @0", "sign s no yes 0 x@", "sign s no yes 0 @, 0", "sign s @No yes 0", "sign s no @yes1 0",
    "choose c@", "choose c no@", "choose c no 0@", "choose c no 0 ,@", "choose c no 0 , yes@", "choose c no 0 , @no 0",
    "choose c no 0 , yes 0 , @no 0", "choose c no 0 , yes 0 , @yes 0", "choose c no 0 , yes 0 ,@", "choose c no 0 , @0",
    "choose c @0",
    "choose c no @yes", "choose c no @, yes 0", "choose c no 0 @yes 0", "choose c no 0 x@", "choose c no 0 x 1@",
    "choose c no 0 x @, yes 0",
    "choose c no 0 , yes 0 @low", "choose c no 0 , yes @,", "choose c no 0 , @, yes 0",
    "choose c no 0 x 1 @x 1 , yes 0",
    # Rules.
    "rules r~", "rules r @no", "rules r\n@", "rules r\n@sum f 0", "rules r\n@row no 0", "rules r\nif@",
    "rules r\nif no@",
    "rules r\nif @0", "rules r\nif no @x", "rules r\nif no 0~", "rules r\nif no 0\n@sum f 0", "rules r\nif no 0 ,@",
    "rules r\nif no 0 , @no", "rules r\nif no 0 , @,", "rules r\nif no 0 , 0 @0", "rules r\nif no @, 0",
    "rules r\nelse@",
    "rules r\nelse @0", "rules r\nelse no @0", "rules r\nelse no\n@if no 0", "rules r\nif no 0\nif yes 0~",
    "rules r\nif no 0 x@",
    "rules r\nif no 0\n@\nelse no", "rules r\nif no 0\nelse@\n", "rules r\n@Else no", "rules r\nif no 0 @r 1\nelse no",
    # Near.
    "near n@", "near n 1@", "near n @0", "near n @4 x 1", "near n @x 1", "near n @-1 x 1", "near n @1/2 x 1",
    "near n @01 x 1",
    "near n @10 x 1", "near n 1 @1", "near n 1 @y 1", "near n 1 @n 1", "near n 1 x@", "near n 1 x @x", "near n 1 x @0",
    "near n 1 x @-1",
    "near n 1 x @-1/2", "near n 1 x 1 @x 1", "near n 1 u 1 @x 1", "near n 1 x 1 u 1 @u 1", "near n 1 x 1 u 1 @1",
    "near n 1 x 1 u@",
    "near n 1 x 1 @, u 1", "near n 1 x 1~", "near n 1 x 1\n@sum f 0", "near n 2 x 1\nrow no 0~",
    "near n 2 x 1\nrow no 0\n@sum f 0",
    "near n 3 x 1\nrow no 0\nrow no 1~", "near n 3 x 1\nrow no 0\nrow no 1\n@sign s no yes 0", "near n 1 x 1\n@",
    "near n 1 x 1\nrow@",
    "near n 1 x 1\nrow no@", "near n 1 x 1 u 1\nrow no 0@", "near n 1 x 1 u 1\nrow no 0@\nrow no 0 0",
    "near n 1 x 1\nrow no 0 @0",
    "near n 1 x 1\nrow @0", "near n 1 x 1\nrow no @no", "near n 1 x 1\nrow no 0\nrow no@",
    "near n 1 x 1\nrow no 0\n@if no 0",
    "near n 1 x 1\nrow no 0\nrow yes 0 @x", "sign s no yes 0\nnear n 1 @s 1", "near n 1 u 1 @f 1",
    "near n 1 x 1\nrow no @+1",
    "near n 2 x 1\nrow no 0\n@\nrow no 0",
]
WRONG_BEHIND = [
    # Votes.
    "votes@", "votes v@", "votes v no@", "votes v no yes@", "votes v no yes :@", "votes v @: s", "votes v no @: s",
    "votes v yes @: s",
    "votes v low @:", "votes v low yes @: s t", "votes v other @: s", "votes v no @no", "votes v no yes @no : s",
    "votes v no yes : @t",
    "votes v no yes : s @t", "votes v no low : @s", "votes v no low : t @s", "votes v no yes : @h",
    "votes v no yes : @x", "votes v no yes : @no",
    "votes v no yes : @v", "votes v no yes : s @:", "votes v no yes : s @, s", "votes v no yes : @:",
    "votes v no yes @, s", "votes v @1",
    "votes v no yes : s @?", "votes v no yes : s @", "votes v no yes : @", "votes @s no yes : s", "votes @h no yes : s",
    "votes v no @ yes : s",
    "votes v no yes : s\nvotes @v no yes : s", "votes v no yes : @w\nsign w no yes 0", "votes v no yes @;",
    "votes v no yes :@\n",
    # Gates.
    "gate@", "gate g@", "gate g @h no h yes h", "gate g @x", "gate g @g", "gate g @no", "gate g s@",
    "gate g s @yes h no h", "gate g s no@",
    "gate g s no h@", "gate g s no h yes@", "gate g s no h yes h @low", "gate g s no h @no h", "gate g s no h @low h",
    "gate g s @h h",
    "gate g s no @x yes x", "gate g s no @u yes u", "gate g s no @g yes g", "gate g s no h yes @s",
    "gate g s no s yes @h", "gate g s no h yes @x",
    "gate g s no t yes @u", "gate g s no @no yes no", "gate g s no h yes h @s", "gate g t no h @yes h",
    "gate g s no @i yes i\nhinge i 0",
    "gate @s s no h yes h", "gate g s no h @, yes h", "gate g s no @0 yes 0", "gate g s @: no h",
    "gate g s no h yes h @", "gate g s no h @ yes h",
    "gate g s no h yes h\nvotes v no yes : @g", "gate g s no t yes t\nvotes v no yes : @g",
    "gate g s no h yes h\ngate k @g no h",
    "gate g s no s yes t\ngate k g no h yes h @other", "gate g s no s yes t\ngate k g no h yes h low@",
    "gate g s no t yes t\ngate k g no h @yes h",
]


class ModelTextsTest(unittest.TestCase):
    def test_right_texts(self):
        for start, texts in ((HEAD, RIGHT), (USED, RIGHT_BEHIND)):
            for text in texts:
                self.assertEqual(Model(start + text).text, start + text)

    def test_wrong_texts(self):
        for text in WRONG:
            check_wrong(self, Model, HEAD + text)
        for text in WRONG_BEHIND:
            check_wrong(self, Model, USED + text)

    def test_later_wrong_places_do_not_matter(self):
        for text in WRONG:
            if not text.endswith("~"):
                check_wrong(self, Model, HEAD + text + "\n?\n")
        for text in WRONG_BEHIND:
            check_wrong(self, Model, USED + text + "\nsum\n")

    def test_texts_without_a_value_or_verdict(self):
        for text in ("fraction x~", "fraction x\nyesno u~", "fraction x from 0~", "yesno a\nyesno b\nyesno c~",
                     "fraction a\nfraction b\nfraction c\nfraction d\nfraction e\nfraction f~"):
            check_wrong(self, Model, text)

    def test_the_first_line_is_one_of_a_feature(self):
        for text in RIGHT:
            check_wrong(self, Model, "@" + text)

    def test_newlines_at_the_end(self):
        for start, texts in ((HEAD, RIGHT), (USED, RIGHT_BEHIND)):
            for text in texts:
                check_wrong(self, Model, start + text + "\n@")
                check_wrong(self, Model, start + text + "\n@\n")
                check_wrong(self, Model, start + text + " @")
        check_wrong(self, Model, "fraction x\n@")

    def test_numbers_at_each_place(self):
        places = ["sum f @", "sum f 0 x @", "hinge f @", "hinge f 0 x @", "leaky f @ 0", "leaky f 0 @",
                  "leaky f 0 0 x @",
                  "clip f @ 10 0", "clip f -10 @ 0", "clip f 0 1 @", "clip f 0 1 0 x @", "highest f @ , 0",
                  "highest f 0 , @",
                  "highest f 0 , 0 u @", "tree t\ntell @", "tree t\ntell 0 x @", "tree t\nask @\ntell 0\ntell 0",
                  "tree t\nask 0 u @\ntell 0\ntell 0", "sign s no yes @", "sign s no yes 0 x @",
                  "choose c no @ , yes 0",
                  "choose c no 0 , yes @", "choose c no 0 , yes 0 x @", "rules r\nif no @\nelse no",
                  "rules r\nif no 0 , @\nelse no",
                  "rules r\nif no 0 , 0 x @\nelse no", "near n 1 x @\nrow no 0", "near n 1 x 1\nrow no @",
                  "near n 1 x 1 u 1\nrow no 0 @", "near n 1 x 1\nrow no 0\nrow no @"]
        for text in places:
            for number in WRONG_NUMBERS:
                check_wrong(self, Model, HEAD + text.replace("@", "@" + number))
            for number in GOOD_NUMBERS:
                if self.may_stand(text, number):
                    Model(HEAD + text.replace("@", number))

    def may_stand(self, text, number):
        """Whether a ratio may stand at the mark."""
        if "x @" in text or "u @" in text:
            return number != "0" and (number[0] != "-" or not text.startswith("near"))
        if text.startswith("clip f @"):
            return Fraction(number) < 10
        return not text.startswith("clip f -10 @") or Fraction(number) > -10

    def test_names_at_each_place(self):
        places = ["sum @ 0", "hinge @ 0", "leaky @ 0 0", "clip @ 0 1 0", "highest @ 0 , 0", "tree @\ntell 0",
                  "sign @ o k 0",
                  "choose @ o 0 , k 0", "rules @\nelse o", "near @ 1 xx 1\nrow o 0", "tree mm\nclass @",
                  "sign mm @ k 0",
                  "sign mm k @ 0", "choose mm @ 0 , k 0", "choose mm o 0 , k 0 , @ 0", "rules mm\nif @ 0\nelse o",
                  "rules mm\nelse @", "near mm 1 xx 1\nrow @ 0", "sign mm o k 0\nvotes @ o k : mm",
                  "sign mm o k 0\nvotes nn @ k o : mm", "sign mm o k 0\nvotes nn o k @ : mm",
                  "sign mm o k 0\ngate @ mm o mm k mm"]
        for text in places:
            for name in GOOD_NAMES:
                Model("fraction xx\n" + text.replace("@", name))
            for name in WRONG_NAMES:
                if name != ":" or "votes nn" not in text:
                    check_wrong(self, Model, "fraction xx\n" + text.replace("@", "@" + name))

    def test_letters_stand_in_the_order_of_the_text(self):
        letters = ["b", "a", "c", "e", "d"]
        head = "fraction b\nyesno a\nfraction c\nsum e 0\nsign s no yes 0\nhinge d 0\n"
        for one in range(5):
            for other in range(5):
                text = f"sum f 0 {letters[one]} 1 @{letters[other]} 2"
                if one < other:
                    Model(head + text.replace("@", ""))
                else:
                    check_wrong(self, Model, head + text)
                near = f"near n 1 {letters[one]} 1 @{letters[other]} 2\nrow no 0 0"
                if one < other:
                    Model(head + near.replace("@", ""))
                else:
                    check_wrong(self, Model, head + near)

    def test_forty_values_and_verdicts(self):
        names = [one + other for one in "abcdefg" for other in "abcdefg"]
        lines = ["sign aa no yes 0"] + [f"sum {name} 0" for name in names[1:40]]
        self.assertEqual(len(Model(HEAD + "\n".join(lines)).names), 40)
        for line in ("sum z 0", "hinge z 0", "votes z no yes : aa", "gate z aa no ab yes ab", "tree z\ntell 0", "?",
                     "fraction q"):
            check_wrong(self, Model, HEAD + "\n".join(lines) + "\n@" + line)
        for line in ("tree z\nask 0\ntell 0\ntell 0", "rules z\nif no 0\nelse no", "near z 1 x 1\nrow no 0\nrow no 0"):
            text = HEAD + "\n".join(lines[:39]) + "\n" + line
            self.assertEqual(len(Model(text).names), 40)
            check_wrong(self, Model, text + "\n@sum zz 0")
        check_wrong(self, Model, HEAD + "\n".join(lines[:39]) + "\nnear z 2 x 1\nrow no 0\n@sum zz 0")

    def test_pieces_of_right_texts(self):
        """No piece of a correct text is wrong, whatever follows; another piece in its place is, if none may be so."""
        rng = random.Random(21)
        for text in list(some_texts(rng, 120,
                                    5)) + [HEAD + text for text in RIGHT] + [USED + text for text in RIGHT_BEHIND]:
            rows = [row.split(" ") for row in text.split("\n")]
            for line, row in enumerate(rows):
                ahead = "".join(" ".join(before) + "\n" for before in rows[:line])
                for at in range(len(row)):
                    start = ahead + "".join(piece + " " for piece in row[:at])
                    rest = " ".join(row[at:])
                    check_wrong(self, Model, f"{start}@?{rest}")
                    check_wrong(self, Model, f"{start}@ {rest}\n?")
                    self.check_end(ahead, " ".join(row[:at + 1]), rows[line + 1:])

    def check_end(self, ahead, row, rest):
        """A text that ends behind a piece, or a line that does, is right or ends too early."""
        line = ahead.count("\n") + 1
        for text in (ahead + row, "\n".join([ahead + row] + [" ".join(pieces) for pieces in rest])):
            try:
                Model(text)
            except BadText as error:
                early = error.line == line and error.column == len(row) + 1
                self.assertTrue(early or error.line > line, (text, error.line, error.column))
                if text == ahead + row:
                    self.assertTrue(early or (error.line, error.column) == (line + 1, 1))

    def test_each_random_text_is_right(self):
        rng = random.Random(22)
        for text in some_texts(rng, 300, 6):
            self.assertEqual(Model(text).text, text)

    def test_deep_trees(self):
        for many in (41, 3000, 6000):
            for end in ("tell 0", "class no"):
                right = "fraction x\ntree t\n" + "ask 0 x 1\n" * many + f"{end}\n" * many + end
                check_raised(self, TooLarge, {"what": "switches", "many": many, "limit": 40}, Model, right)
                left = "fraction x\ntree t\n" + f"ask 0 x 1\n{end}\n" * many + end
                check_raised(self, TooLarge, {"what": "switches", "many": many, "limit": 40}, Model, left)
                check_raised(self, BadText, {"line": 2 * many + 3, "column": 1}, Model, right[:-len(end) - 1])
                check_raised(self, BadText, {"line": 2 * many + 3, "column": 1}, Model, left[:-len(end) - 1])
                check_raised(self, BadText, {"line": 2 * many + 4, "column": 1}, Model, left + "\n" + end)

    def test_wrong_texts_with_too_many_switches(self):
        planes = " , ".join(["0"] * 42)
        check_raised(self, TooLarge, {"what": "switches", "many": 41, "limit": 40}, Model, f"{HEAD}highest f {planes}")
        check_wrong(self, Model, f"{HEAD}highest f {planes} ,@")
        check_wrong(self, Model, f"{HEAD}highest f {planes}\n@")
        check_wrong(self, Model, f"{HEAD}highest f {planes}\nsum g 0 @g 1")
        check_wrong(self, Model, f"{HEAD}highest f {planes}\ntree t~")

    def test_texts_with_one_kind_of_line(self):
        rng = random.Random(23)
        for kind in ("sum", "hinge", "leaky", "clip", "highest", "tree", "sign", "choose", "rules", "near",
                     "treeclass"):
            for _ in range(10):
                text = random_text(rng, 2, 1, [kind, kind])
                self.assertEqual(Model(text).text, text)


if __name__ == "__main__":
    unittest.main()
