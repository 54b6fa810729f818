import random
import unittest
from fractions import Fraction

from checking import check_raised, numbers
from hingeworks.alike import apart
from hingeworks.errors import NotContinuous, NotPlain, TooLarge, TooLong, Unlike
from hingeworks.models import Model
from hingeworks.netting import net_of
from hingeworks.pairs import pair_of
from judging import told_at
from modeltexts import random_text
from reference import Text, split_planes
from slimmer import plane_text

X = "fraction x\n"
PLANE = "fraction x\nfraction y\n"


class NettingTest(unittest.TestCase):
    def check(self, text, rng=None):
        """The rows of the net behind the features; all of it is judged."""
        model = Model(text)
        found = net_of(model)
        self.assertIs(type(found), Model)
        taken, made = Text(text), Text(found.text)
        self.assertEqual(made.features, taken.features)
        self.assertEqual(len(made.blocks), 3)
        plus, minus, last = [block[0] for block in made.blocks]
        self.assertTrue(all(len(block) == 1 for block in made.blocks))
        free = [letter for letter in "abcdefghijklmnopqrstuvwxyz" if letter not in [*taken.names, model.names[-1]]]
        self.assertEqual(last, ["sum", model.names[-1], "0", free[0], "1", free[1], "-1"])
        pair = pair_of(model)
        for row, name, heap in [(plus, free[0], pair.plus), (minus, free[1], pair.minus)]:
            self.assertEqual(row[:2], ["highest" if len(heap.planes) > 1 else "sum", name])
            planes = [plane_text(numbers(one)[0], zip(taken.names, numbers(one)[1:])) for one in heap.planes]
            self.assertEqual(sorted(" ".join(part) for part in split_planes(row[2:])), sorted(planes))
        rng = rng or random.Random(531)
        for _ in range(12):
            point = [Fraction(rng.randint(-60, 60), rng.choice([1, 2, 3, 10])) for _ in taken.names]
            self.assertEqual(told_at(text, point), told_at(found.text, point))
        if model.switches + found.switches <= 40:
            self.assertIsNone(apart(model, found))
        return [" ".join(block[0]) for block in made.blocks]

    def test_heaps_of_one_plane_and_of_more(self):
        self.assertEqual(self.check(X + "sum f 1 x 2"), ["sum a 1 x 2", "sum b 0", "sum f 0 a 1 b -1"])
        self.assertEqual(self.check(X + "sum f 0"), ["sum a 0", "sum b 0", "sum f 0 a 1 b -1"])
        found = self.check(X + "hinge f -1 x 2")
        self.assertIn(found[0], ("highest a 0 , -1 x 2", "highest a -1 x 2 , 0"))
        self.assertEqual(found[1:], ["sum b 0", "sum f 0 a 1 b -1"])
        found = self.check(X + "hinge h 0 x 1\nsum f 0 h -2")
        self.assertEqual(found[0], "sum a 0 x -1")
        self.assertIn(found[1], ("highest b 0 x 1 , 0 x -1", "highest b 0 x -1 , 0 x 1"))
        self.assertTrue(all(row.startswith("highest") for row in self.check(X + "clip f 0 1 0 x 1")[:2]))

    def test_names(self):
        for features, last, plus, minus in [
            ("fraction a\nfraction c\n", "b", "d", "e"), ("fraction x\n", "a", "b", "c"), ("fraction b\n", "zz", "a", "c"),
            ("fraction e\nfraction d\nfraction c\nfraction b\nfraction a\nfraction f\n", "g", "h", "i"), ("fraction aa\n", "f", "a", "b"),
        ]:
            name = features.split("\n")[0].split(" ")[1]
            found = self.check(features + f"hinge {last} 0 {name} 1")
            self.assertEqual([row.split(" ")[1] for row in found], [plus, minus, last])
        # Names of other lines may be used.
        found = self.check(X + "sum a 0 x 1\nhinge b 0 a 1\nsum f 0 b 1")
        self.assertEqual([row.split(" ")[1] for row in found], ["a", "b", "f"])

    def test_the_lines_of_the_features_stay(self):
        features = "fraction x from -1/2 to 3 by 1/7\nfraction y to 0\n"
        self.assertTrue(net_of(Model(features + "hinge f 0 x 1 y 1")).text.startswith(features))
        self.check(features + "hinge f 0 x 1 y 1")

    def test_beyond_the_ranges(self):
        # Within the range it is one plane.
        found = self.check("fraction x from 0 to 1\nhinge f 0 x 1")
        self.assertIn(found[0], ("highest a 0 , 0 x 1", "highest a 0 x 1 , 0"))
        jump = "tree t\nask -2 x 1\ntell 0\ntell 1"
        for features in ("fraction x from 0 to 1\n", X):
            check_raised(self, NotContinuous, {}, net_of, Model(features + jump))

    def test_a_tree_without_a_jump_has_a_net(self):
        found = self.check(X + "tree t\nask -1 x 1\ntell 0 x 2\ntell 1 x 1")
        self.assertEqual(found[2], "sum t 0 a 1 b -1")
        self.check(PLANE + "tree t\nask 0 x 1 y -1\nask 0 y 1\ntell 0\ntell 0 y 1\nask 0 x 1\ntell 0\ntell 0 x 1")

    def test_many_models(self):
        rng = random.Random(532)
        for turn in range(40):
            kinds = [rng.choice(["hinge", "leaky", "clip", "highest", "sum"]) for _ in range(rng.randint(1, 3))]
            text = random_text(rng, 1 + turn % 2, 0, kinds, 0.5)
            if Model(text).switches <= 6:
                self.check(text, rng)

    def folded(self, steps, scale="1"):
        """A text with 31 creases that fold x again and again, and with as many further ones; all bends times a scale."""
        rows = ["fraction x", f"sum z 1/3 x {scale}"]
        for before, after, shift in zip("zabcd", "abcde", (16, 8, 4, 2, 1)):
            rows += [f"hinge p{after} 0 {before} 1", f"hinge q{after} 0 {before} -1", f"sum {after} -{shift} p{after} 1 q{after} 1"]
        planes = " , ".join(["0", "0"] + [f"-{at * (at + 1) // 2} x {at}" for at in range(1, steps + 1)])
        return "\n".join([*rows, f"highest h {planes}", "sum f 0 e 1 h 1"])

    def test_forty_switches(self):
        for steps in (0, 5, 9):
            model = Model(self.folded(steps))
            pair = pair_of(model)
            self.assertEqual(len(pair.plus.planes) + len(pair.minus.planes), 33 + steps)
            self.assertEqual(net_of(model).switches, 31 + steps)
        for steps in (10, 12):
            check_raised(self, TooLarge, {"what": "switches", "many": 31 + steps, "limit": 40}, net_of, Model(self.folded(steps)))

    def test_the_order_of_errors(self):
        deep = self.folded(10)
        check_raised(self, Unlike, {"what": "kind"}, net_of, Model("yesno u\n" + deep + "\nsign s no yes -1 f 1"))
        check_raised(self, NotPlain, {"name": "u"}, net_of, Model("yesno u\n" + deep + "\ntree t\nask 0 x 1\ntell 0\ntell 1 f 1"))
        check_raised(self, NotContinuous, {}, net_of, Model(deep + "\ntree t\nask 0 x 1\ntell 0\ntell 1 f 1"))
        long = "1" + "0" * 3999
        for number in (long, "1/" + long):
            self.assertEqual(net_of(Model(X + f"hinge f 0 x {number}")).switches, 1)
            more = number.replace("1" + "0" * 3999, "1" + "0" * 2000)
            for last in (f"hinge b 0 a {more}", f"sum c 0 x 1\nhinge b 0 a {more} c 1", f"hinge c 0 a -{more}\nsum f 0 x 5 c -2"):
                text = X + f"sum a 0 x {more}\n{last}"
                with self.assertRaises(TooLong) as caught:
                    net_of(Model(text))
                self.assertEqual(caught.exception.digits, 4001)
                check_raised(self, NotPlain, {"name": "u"}, net_of, Model("yesno u\n" + text))
        # TooLarge comes ahead of it.
        longer = deep + f"\nsum l 0 f 1{'0' * 2500}\nsum k 0 l 1{'0' * 2500}"
        check_raised(self, TooLarge, {"what": "switches", "many": 41, "limit": 40}, net_of, Model(longer))
        longer = self.folded(0) + f"\nsum l 0 f 1{'0' * 2500}\nsum k 0 l 1{'0' * 2500}"
        self.assertRaises(TooLong, net_of, Model(longer))

    def test_asked_again(self):
        model = Model(X + "clip f 0 1 0 x 1")
        self.assertEqual(net_of(model).text, net_of(model).text)
        self.assertEqual(model.text, X + "clip f 0 1 0 x 1")


if __name__ == "__main__":
    unittest.main()
