import random
import unittest
from itertools import product

from checking import (belongs, check_empty_weights, check_flat_weights, check_raised, check_tuple_of_ratios, fractions,
                      is_inner, numbers, ratio, shown)
from hingeworks.empties import flat_weights
from hingeworks.errors import TooLarge, Unlike
from hingeworks.models import Model
from hingeworks.places import Place
from hingeworks.planes import Plane
from hingeworks.unfolding import Leaf, Unfolded, unfolded
from modeltexts import random_input, random_text, some_texts
from reference import Text

HAT = "fraction x from 0 to 1\nhinge a 0 x 1\nhinge b -1/2 x 1\nsum f 0 a 2 b -4"


def joint_told(texts, settings, answers):
    """What comes behind these answers: ("ask", plane), or ("told", the results of all models)."""
    told = []
    left = list(answers)
    for text in texts:
        word, found = text.told_after(settings, left)
        if word == "ask":
            return word, found
        if word == "less":
            used, left = left[:found], left[found:]
            word, found = text.told_after(settings, used)
        else:
            left = []
        assert word == "told"
        told.append(found)
    assert not left
    return "told", told


def range_rows(text):
    """The rows of the ends of the fractions, as the reference tells them."""
    rows = []
    for place, name in enumerate(text.fractions):
        letter = [1 if at == place else 0 for at in range(len(text.fractions))]
        low, high = text.end(name, "from"), text.end(name, "to")
        if low is not None:
            rows.append(((-low, *letter), False))
        if high is not None:
            rows.append(((high, *[-share for share in letter]), False))
    return rows


def as_place(rows, size):
    return Place([(Plane(ratio(row[0]), [ratio(slope) for slope in row[1:]]), strict) for row, strict in rows], size)


class UnfoldingTest(unittest.TestCase):
    def check(self, *texts):
        """All that [31] to [35] say of the leaves and of what is left out; returns what was unfolded."""
        models = [Model(text) for text in texts]
        found = unfolded(*models)
        self.assertIs(type(found), Unfolded)
        self.assertIs(type(found.leaves), tuple)
        self.assertIs(type(found.left_out), tuple)
        ends = {}
        for leaf in found.leaves:
            self.assertIs(type(leaf), Leaf)
            self.assertNotIn((leaf.settings, leaf.answers), ends)
            ends[leaf.settings, leaf.answers] = leaf
        for triple in found.left_out:
            self.assertIs(type(triple), tuple)
            settings, answers, weights = triple
            self.assertNotIn((settings, answers), ends)
            ends[settings, answers] = weights
        apart = [Text(text) for text in texts]
        keys = []
        for settings in product((0, 1), repeat=len(apart[0].yesnos)):
            keys += self.check_tree(apart, settings, (), range_rows(apart[0]), ends)
        # Each leaf and each row left out is an end of these trees, and the trees have no other ends.
        self.assertEqual(sorted(keys), sorted(ends))
        self.assertEqual(len(keys), len(found.leaves) + len(found.left_out))
        self.check_order([(leaf.settings, leaf.answers) for leaf in found.leaves])
        self.check_order([triple[:2] for triple in found.left_out])
        return found

    def check_order(self, keys):
        for settings, answers in keys:
            for row in (settings, answers):
                self.assertIs(type(row), tuple)
                self.assertEqual([type(item) for item in row], [int] * len(row))
        self.assertEqual(keys, sorted(keys))

    def check_tree(self, texts, settings, answers, rows, ends):
        """Follows the questions from these answers on; returns the ends, each of which is checked."""
        size = len(texts[0].fractions)
        if isinstance(ends.get((settings, answers)), tuple):
            check_empty_weights(self, ends[settings, answers], as_place(rows, size))
            return [(settings, answers)]
        word, told = joint_told(texts, settings, answers)
        if word == "told":
            self.check_leaf(ends[settings, answers], told, as_place(rows, size))
            return [(settings, answers)]
        self.assertNotIn((settings, answers), ends)
        found = []
        for answer, row in ((0, (tuple(-item for item in told), False)), (1, (told, True))):
            found += self.check_tree(texts, settings, (*answers, answer), rows + [row], ends)
        return found

    def check_leaf(self, leaf, told, place):
        self.assertEqual(shown(leaf.place), shown(place))
        self.assertIs(type(leaf.place), Place)
        self.assertIs(type(leaf.told), tuple)
        self.assertEqual([one if isinstance(one, str) else numbers(one) for one in leaf.told], told)
        check_tuple_of_ratios(self, leaf.point, place.size)
        point = fractions(leaf.point)
        self.assertTrue(belongs(place, point))
        self.assertIs(type(leaf.is_full), bool)
        self.assertEqual(leaf.is_full, is_inner(place, point))
        if not leaf.is_full:
            check_flat_weights(self, flat_weights(place), place)

    def check_inputs(self, rng, text, found):
        """Each input belongs to just one leaf, the one of its answers."""
        apart = Text(text)
        for _ in range(5):
            given = random_input(rng, apart)
            letters = dict(zip(apart.names, given))
            told, answers, _, _ = apart.work(letters)
            settings = tuple(int(letters[name]) for name in apart.yesnos)
            point = [letters[name] for name in apart.fractions]
            holding = [leaf for leaf in found.leaves if leaf.settings == settings and belongs(leaf.place, point)]
            self.assertEqual([leaf.answers for leaf in holding], [answers])
            if isinstance(told, str):
                self.assertEqual(holding[0].told, (told,))
            else:
                fixed, *slopes = numbers(holding[0].told[0])
                self.assertEqual(fixed + sum(slope * item for slope, item in zip(slopes, point)), told)

    def keys(self, found):
        return [(leaf.settings, leaf.answers, leaf.is_full) for leaf in found.leaves]

    def test_a_net(self):
        found = self.check(HAT)
        self.assertEqual(self.keys(found), [((), (0, 0), False), ((), (1, 0), True), ((), (1, 1), True)])
        self.assertEqual([numbers(leaf.told[0]) for leaf in found.leaves], [(0, 0), (0, 2), (2, -2)])
        self.assertEqual([triple[:2] for triple in found.left_out], [((), (0, 1))])

    def test_the_order_is_that_of_settings_and_answers(self):
        found = self.check("yesno u\nfraction x from 0 to 3\nyesno v\ntree t\n"
                           "ask -1 x 1\nask -2 u 1 x 1\ntell 0\ntell 1\nask -3 x 1 v 1\ntell 2\ntell 3")
        self.assertEqual([key[:2] for key in self.keys(found)], [
            ((0, 0), (0, 0)), ((0, 0), (1, 0)), ((0, 1), (0, 0)), ((0, 1), (1, 0)), ((0, 1), (1, 1)),
            ((1, 0), (0, 0)), ((1, 0), (1, 0)), ((1, 1), (0, 0)), ((1, 1), (1, 0)), ((1, 1), (1, 1)),
        ])
        self.assertEqual([triple[:2] for triple in found.left_out], [
            ((0, 0), (0, 1)), ((0, 0), (1, 1)), ((0, 1), (0, 1)), ((1, 0), (0, 1)), ((1, 0), (1, 1)), ((1, 1), (0, 1)),
        ])

    def test_thin_leaves(self):
        found = self.check("fraction x\nhinge a 0 x 1\nhinge b 0 x -1\nsum f 0 a 1 b -1")
        self.assertEqual(self.keys(found), [((), (0, 0), False), ((), (0, 1), True), ((), (1, 0), True)])
        self.assertEqual([numbers(leaf.told[0]) for leaf in found.leaves], [(0, 0), (0, 1), (0, 1)])
        self.assertEqual([triple[:2] for triple in found.left_out], [((), (1, 1))])
        found = self.check("fraction x from 0\nfraction y\nsign s no yes 0 x -1 y -1\nsign t no yes 0 y 1")
        self.assertEqual([leaf.is_full for leaf in found.leaves], [True, True, True])
        found = self.check("fraction x from 0\nfraction y from 0\nsign s no yes 0 x -1 y -1\nsign t no yes 0 y 1")
        self.assertEqual(self.keys(found), [((), (0, 0), False), ((), (0, 1), True)])
        found = self.check("fraction x from 0\nsign s no yes 0 x -1\nsign t no yes 0 x 1")
        self.assertEqual(self.keys(found), [((), (0, 0), False), ((), (0, 1), True)])

    def test_leaves_are_not_merged(self):
        found = self.check("fraction x\nhinge a 0 x 1\nsum f 7")
        self.assertEqual([numbers(leaf.told[0]) for leaf in found.leaves], [(7, 0), (7, 0)])

    def test_switches_that_are_numbers(self):
        found = self.check("fraction x\nhinge a 0\nhinge b 1\nhinge c -1\nhinge d 0 x 1")
        self.assertEqual(self.keys(found), [((), (0, 1, 0, 0), True), ((), (0, 1, 0, 1), True)])
        self.assertEqual([triple[:2] for triple in found.left_out], [((), (0, 0)), ((), (0, 1, 1)), ((), (1,))])

    def test_no_switches(self):
        found = self.check("fraction x\nyesno u\nsum f 1 x 2 u 3")
        self.assertEqual(self.keys(found), [((0,), (), True), ((1,), (), True)])
        self.assertEqual([numbers(leaf.told[0]) for leaf in found.leaves], [(1, 2), (4, 2)])
        self.assertEqual(found.left_out, ())

    def test_without_fractions_every_leaf_is_full(self):
        found = self.check("yesno u\nyesno v\nsign s no yes -1 u 1 v 1\nsign t no yes 0 u 1")
        self.assertEqual(self.keys(found), [((0, 0), (0, 0), True), ((0, 1), (0, 0), True), ((1, 0), (0, 1), True),
                                            ((1, 1), (1, 1), True)])
        self.assertEqual([leaf.point for leaf in found.leaves], [()] * 4)

    def test_several_models(self):
        features = "fraction x from 0 to 4"
        one = f"{features}\nsign s no yes -1 x 1"
        two = f"{features}\nhinge h -2 x 1"
        three = f"{features}\nsum f 0 x 5"
        found = self.check(one, two, three)
        self.assertEqual([leaf.answers for leaf in found.leaves], [(0, 0), (1, 0), (1, 1)])
        self.assertEqual([leaf.told[0] for leaf in found.leaves], ["no", "yes", "yes"])
        self.assertEqual([numbers(leaf.told[1]) for leaf in found.leaves], [(0, 0), (0, 0), (-2, 1)])
        self.assertEqual([numbers(leaf.told[2]) for leaf in found.leaves], [(0, 5)] * 3)
        self.assertEqual([leaf.answers for leaf in self.check(three, two, one).leaves], [(0, 0), (0, 1), (1, 1)])
        self.assertEqual([leaf.answers for leaf in self.check(one, one).leaves], [(0, 0), (1, 1)])
        self.assertEqual([leaf.answers for leaf in self.check(three, three).leaves], [()])

    def test_models_of_all_kinds(self):
        rng = random.Random(11)
        full, thin, left_out = 0, 0, 0
        for text in some_texts(rng, 400, 5):
            found = self.check(text)
            self.check_inputs(rng, text, found)
            full += sum(leaf.is_full for leaf in found.leaves)
            thin += sum(not leaf.is_full for leaf in found.leaves)
            left_out += len(found.left_out)
        self.assertGreater(min(full, thin, left_out), 50)

    def test_each_kind_of_line(self):
        rng = random.Random(12)
        for kind in ["sum", "hinge", "leaky", "clip", "highest", "tree", "sign", "choose", "rules", "near", "treeclass",
                     "votes", "gate"]:
            for ends in (0, 1):
                for fractions_many in (0, 1, 3):
                    helpers = ["hinge", "sign"] if kind in ("votes", "gate") else ["sum"]
                    text = random_text(rng, fractions_many, 1, helpers + [kind], ends)
                    self.check_inputs(rng, text, self.check(text))

    def test_many_models_at_once(self):
        rng = random.Random(13)
        kinds = ["hinge", "sign", "tree", "clip", "choose", "near", "votes", "gate"]
        for turn in range(25):
            texts = [random_text(rng, turn % 3, 1, ["sign", rng.choice(kinds)], 0.3)]
            for _ in range(rng.randint(1, 2)):
                chosen = [rng.choice(kinds) for _ in range(rng.randint(1, 2))]
                texts.append(random_text(rng, 0, 0, chosen, 0, Text(texts[0])))
            self.check(*texts)

    def test_more_switches_than_tableaus_of_a_few_rows(self):
        rows = ["fraction x from 0 to 100", "fraction y from 0 to 100"]
        for at in range(12):
            rows.append(f"hinge h{'abcdefghijklm'[at]} {-at - 1} x {at % 3 + 1} y {at % 5 - 2}".replace(" y 0", ""))
        self.assertGreater(len(self.check("\n".join(rows)).leaves), 20)

    def test_long_numbers(self):
        long = f"{10 ** 300 + 1}/{10 ** 299 + 7}"
        found = self.check(f"fraction x\nfraction y\nhinge a {long} x 1 y -{long}\nhinge b 1 x -{long} y 3 a {long}")
        self.assertEqual(len(found.leaves), 4)

    def test_unlike_features(self):
        one = Model("fraction x\nsum f 0")
        for features in ("fraction y", "fraction x from 0", "fraction x\nfraction y", "yesno x", "fraction x by 2"):
            other = Model(f"{features}\nsum f 0")
            check_raised(self, Unlike, {"what": "features"}, unfolded, one, other)
            check_raised(self, Unlike, {"what": "features"}, unfolded, other, one)
            check_raised(self, Unlike, {"what": "features"}, unfolded, one, one, other)

    def with_switches(self, many, name="x"):
        planes = " , ".join(["0"] * (many + 1))
        return Model(f"fraction {name}\nhighest h {planes}")

    def test_too_many_switches(self):
        self.assertEqual(len(unfolded(self.with_switches(40)).leaves), 1)
        self.assertEqual(len(unfolded(self.with_switches(20), self.with_switches(20)).leaves), 1)
        fields = {"what": "switches", "many": 41, "limit": 40}
        check_raised(self, TooLarge, fields, unfolded, self.with_switches(20), self.with_switches(21))
        check_raised(self, TooLarge, fields, unfolded, *[self.with_switches(many) for many in (15, 15, 11)])
        fields["many"] = 80
        check_raised(self, TooLarge, fields, unfolded, self.with_switches(40), self.with_switches(40))
        check_raised(self, Unlike, {"what": "features"}, unfolded, self.with_switches(40), self.with_switches(40, "y"))

    def test_asked_again_and_nothing_changed(self):
        rng = random.Random(14)
        for text in some_texts(rng, 30):
            model = Model(text)
            one, other = unfolded(model), unfolded(model)
            for leaf, again in zip(one.leaves, other.leaves):
                self.assertEqual((leaf.settings, leaf.answers, leaf.told, leaf.point, leaf.is_full),
                                 (again.settings, again.answers, again.told, again.point, again.is_full))
                self.assertEqual(leaf.place, again.place)
            self.assertEqual(one.left_out, other.left_out)
            self.assertEqual(model.text, text)
            self.assertEqual(model, Model(text))


if __name__ == "__main__":
    unittest.main()
