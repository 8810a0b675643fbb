import itertools
import unittest
from unittest import mock

from lategone.late import Late
from lategone.ways import lengths_shown, nearest
from tests import plain

GREAT = plain.GREAT
# A square with a way across, a way back, a ring, and a part that can't be come to.
WEB = (("a", "b", 2), ("a", "c", 5), ("b", "c", 2), ("b", "d", 7), ("c", "d", 3), ("d", "a", 1), ("d", "b", 1),
       ("x", "y", 1), ("y", "x", 1), ("x", "a", 1))
SMALL = (
    (), (("a", "a", 1),), (("a", "b", 1),), (("b", "a", 1),), (("b", "c", 1),), (("a", "b", 2), ("a", "b", 2)),
    (("a", "b", 1), ("b", "c", 1)), (("a", "b", 1), ("a", "c", 1)), (("a", "b", 3), ("a", "c", 1), ("c", "b", 1)),
    (("b", "c", 1), ("c", "b", 1)), (("a", "b", 1), ("b", "c", 2), ("a", "c", 3)), (("b", "b", 1), ("a", "c", 2)),
    (("a", "b", 1), ("b", "a", 1), ("c", "a", 1)), (("a", "b", 2), ("b", "c", 1), ("c", "b", 1)),
)


def any_web(dice, many, names, spread):
    return tuple((dice.one_of(names), dice.one_of(names), dice.below(spread) + 1) for _ in range(many))


class Nearest(unittest.TestCase):
    def assert_nearest(self, web, first):
        told = nearest(web, first)
        self.assertEqual(told, plain.nearest(web, first))
        self.assertEqual(nearest(web, first), told)
        self.assertEqual(told[0][first], 0)
        self.assertEqual(set(told[1]), set(told[0]) - {first})
        return told

    def test_of_an_empty_web(self):
        self.assertEqual(nearest((), "a"), ({"a": 0}, {}))

    def test_of_a_first_name_in_no_row(self):
        self.assertEqual(nearest(WEB, "z"), ({"z": 0}, {}))

    def test_of_a_first_name_with_no_row_from_it(self):
        self.assertEqual(nearest((("a", "b", 1),), "b"), ({"b": 0}, {}))

    def test_of_a_web(self):
        self.assertEqual(self.assert_nearest(WEB, "a"),
                         ({"a": 0, "b": 2, "c": 4, "d": 7}, {"b": "a", "c": "b", "d": "c"}))
        self.assertEqual(self.assert_nearest(WEB, "x"),
                         ({"x": 0, "y": 1, "a": 1, "b": 3, "c": 5, "d": 8},
                          {"y": "x", "a": "x", "b": "a", "c": "b", "d": "c"}))

    def test_rows_lead_one_way(self):
        self.assertEqual(nearest((("a", "b", 1), ("c", "b", 1)), "a"), ({"a": 0, "b": 1}, {"b": "a"}))

    def test_rows_alike(self):
        web = (("a", "b", 3), ("a", "b", 3), ("a", "b", 2), ("a", "b", 2), ("b", "c", 1), ("b", "c", 1))
        self.assertEqual(self.assert_nearest(web, "a"), ({"a": 0, "b": 2, "c": 3}, {"b": "a", "c": "b"}))

    def test_rows_from_a_name_to_itself(self):
        web = (("a", "a", 1), ("a", "b", 1), ("b", "b", 1), ("z", "z", 1))
        self.assertEqual(self.assert_nearest(web, "a"), ({"a": 0, "b": 1}, {"b": "a"}))
        self.assertEqual(nearest(web, "z"), ({"z": 0}, {}))

    def test_of_several_nearest_ways_the_least_name(self):
        ways = (("s", "m", 1), ("s", "b", 2), ("s", "k", 3), ("m", "t", 3), ("b", "t", 2), ("k", "t", 1), ("s", "t", 4))
        for web in itertools.permutations(ways):
            self.assertEqual(nearest(web, "s"),
                             ({"s": 0, "m": 1, "b": 2, "k": 3, "t": 4}, {"m": "s", "b": "s", "k": "s", "t": "b"}))

    def test_the_least_name_is_the_lesser_text(self):
        web = (("s", "ab", 1), ("s", "b", 1), ("s", "aaz", 1), ("ab", "t", 1), ("b", "t", 1), ("aaz", "t", 1))
        self.assertEqual(nearest(web, "s")[1]["t"], "aaz")
        self.assertEqual(nearest(web[::-1], "s")[1]["t"], "aaz")

    def test_a_lesser_name_on_a_longer_way_is_not_told(self):
        web = (("s", "a", 2), ("s", "b", 1), ("a", "t", 2), ("b", "t", 2), ("a", "b", 1))
        self.assertEqual(nearest(web, "s")[1], {"a": "s", "b": "s", "t": "b"})

    def test_lengths_of_30_figures(self):
        web = (("a", "b", GREAT), ("b", "c", GREAT), ("c", "d", GREAT), ("a", "c", 2 * GREAT - 1), ("a", "e", 1),
               ("e", "b", GREAT - 2))
        self.assertEqual(self.assert_nearest(web, "a"),
                         ({"a": 0, "e": 1, "b": GREAT - 1, "c": 2 * GREAT - 1, "d": 3 * GREAT - 1},
                          {"e": "a", "b": "e", "c": "a", "d": "c"}))

    def test_what_is_told_is_the_askers_own(self):
        web = (("a", "b", 1), ("b", "c", 1))
        told = nearest(web, "a")
        told[0].clear()
        told[1]["b"] = "z"
        self.assertEqual(nearest(web, "a"), ({"a": 0, "b": 1, "c": 2}, {"b": "a", "c": "b"}))
        self.assertEqual(web, (("a", "b", 1), ("b", "c", 1)))

    def test_kinds(self):
        told = nearest(WEB, "a")
        self.assertIs(type(told), tuple)
        self.assertEqual([type(part) for part in told], [dict, dict])

    def test_by_the_names_of_the_arguments(self):
        self.assertEqual(nearest(web=(("a", "b", 1),), first="b"), ({"b": 0}, {}))

    def test_by_a_heap_that_is_changed_when_a_nearer_way_is_found(self):
        web = (("a", "b", 9), ("a", "c", 1), ("c", "b", 7), ("a", "d", 2), ("d", "b", 5), ("d", "b", 5), ("d", "c", 1))
        with mock.patch.object(Late, "change", autospec=True, side_effect=Late.change) as change:
            nearest(web, "a")
        self.assertEqual([call.args[1:] for call in change.call_args_list], [("b", 8), ("b", 7)])

    def test_all_small_webs(self):
        rows = list(itertools.product("abc", "abc", (1, 2)))
        for many in range(4):
            for web in itertools.combinations(rows, many):
                for first in "abc":
                    self.assert_nearest(web, first)

    def test_any_webs(self):
        dice = plain.Dice(71)
        for names, spread in ((5, 3), (20, 9), (60, 4), (200, 10), (100, GREAT)):
            for many in (10, 60, 300):
                web = any_web(dice, many, plain.many_names(names), spread)
                for _ in range(4):
                    self.assert_nearest(web, dice.one_of(plain.many_names(names)))

    def test_a_long_chain(self):
        names = plain.many_names(200)
        web = tuple((one, other, k % 3 + 1) for k, (one, other) in enumerate(zip(names, names[1:])))
        self.assertEqual(self.assert_nearest(web, names[0])[0][names[-1]], sum(row[2] for row in web))
        self.assert_nearest(web[::-1], names[0])
        back = tuple((one, "a", 1) for one in names[1:101])
        self.assert_nearest(web + back, names[0])


class LengthsShown(unittest.TestCase):
    def assert_shown(self, web, first, lengths, right):
        before = dict(lengths)
        for _ in range(2):
            self.assertIs(lengths_shown(web, first, lengths), right, (web, first, lengths))
        self.assertEqual(list(lengths.items()), list(before.items()))

    def test_what_nearest_tells(self):
        for first in "abcdxyz":
            self.assert_shown(WEB, first, nearest(WEB, first)[0], True)
            self.assert_shown(WEB, first, plain.nearest(WEB, first)[0], True)

    def test_in_another_order(self):
        for order in itertools.permutations((("a", 0), ("b", 2), ("c", 4), ("d", 7))):
            self.assert_shown(WEB, "a", dict(order), True)

    def test_of_an_empty_web(self):
        self.assert_shown((), "a", {"a": 0}, True)
        self.assert_shown((), "a", {}, False)
        self.assert_shown((), "a", {"a": 1}, False)
        self.assert_shown((), "a", {"a": 0, "b": 0}, False)
        self.assert_shown((), "a", {"a": 0, "b": 1}, False)
        self.assert_shown((), "a", {"b": 0}, False)

    def test_a_length_of_another_number(self):
        right = {"a": 0, "b": 2, "c": 4, "d": 7}
        for name, length in right.items():
            for other in (length - 1, length + 1, -length - 1, length + GREAT, length - GREAT, 10 ** 400, -10 ** 400):
                self.assert_shown(WEB, "a", {**right, name: other}, False)
        for name in "bcd":
            self.assert_shown(WEB, "a", {**right, name: 0}, False)

    def test_several_lengths_of_other_numbers(self):
        self.assert_shown(WEB, "a", {"a": 0, "b": 3, "c": 5, "d": 8}, False)
        self.assert_shown(WEB, "a", {"a": 0, "b": 1, "c": 3, "d": 6}, False)
        self.assert_shown(WEB, "a", {"a": 1, "b": 3, "c": 5, "d": 8}, False)
        self.assert_shown(WEB, "a", {"a": -2, "b": 0, "c": 2, "d": 5}, False)
        self.assert_shown(WEB, "a", {"a": 0, "b": 2, "c": 5, "d": 8}, False)

    def test_a_name_left_out(self):
        for name in "abcd":
            lengths = {"a": 0, "b": 2, "c": 4, "d": 7}
            lengths.pop(name)
            self.assert_shown(WEB, "a", lengths, False)
        self.assert_shown(WEB, "a", {"a": 0}, False)
        self.assert_shown(WEB, "a", {}, False)

    def test_a_name_more(self):
        for name in ("x", "y", "strange"):
            for length in (-1, 0, 1, 7, GREAT):
                self.assert_shown(WEB, "a", {"a": 0, "b": 2, "c": 4, "d": 7, name: length}, False)

    def test_names_more_that_hold_one_another_up(self):
        right = {"a": 0, "b": 2, "c": 4, "d": 7}
        for x, y in itertools.product(range(-3, 4), repeat=2):
            self.assert_shown(WEB, "a", {**right, "x": x, "y": y}, False)

    def test_a_ring_that_does_not_go_back_to_the_first_name(self):
        ring = (("p", "q", 1), ("q", "r", 1), ("r", "p", 1), ("p", "r", 2), ("r", "q", 2), ("q", "p", 2))
        for web in (ring, ring + (("a", "b", 1),), ring + (("p", "a", 1),), ring + (("b", "a", 3),)):
            right = plain.nearest(web, "a")[0]
            for lengths in itertools.product(range(-2, 4), repeat=3):
                self.assert_shown(web, "a", {**right, **dict(zip("pqr", lengths))}, False)

    def test_a_chain_that_does_not_go_back_to_the_first_name(self):
        web = (("a", "b", 5), ("p", "q", 1), ("q", "r", 1))
        for low in (-5, -1, 0, 1, 4, 5, 6):
            self.assert_shown(web, "a", {"a": 0, "b": 5, "p": low, "q": low + 1, "r": low + 2}, False)

    def test_a_ring_that_the_first_name_leads_to(self):
        web = (("a", "p", 4), ("p", "q", 1), ("q", "p", 1))
        self.assert_shown(web, "a", {"a": 0, "p": 4, "q": 5}, True)
        self.assert_shown(web, "a", {"a": 0, "p": 3, "q": 4}, False)
        self.assert_shown(web, "a", {"a": 0, "p": 3, "q": 2}, False)
        self.assert_shown(web, "a", {"a": 0, "p": -1, "q": 0}, False)

    def test_lengths_of_another_first_name(self):
        for first, other in itertools.permutations("abcdxyz", 2):
            self.assert_shown(WEB, first, nearest(WEB, other)[0], False)

    def test_rows_from_a_name_to_itself(self):
        web = (("a", "a", 1), ("a", "b", 1), ("b", "b", 1), ("c", "c", 1))
        self.assert_shown(web, "a", {"a": 0, "b": 1}, True)
        self.assert_shown(web, "a", {"a": 0, "b": 1, "c": 1}, False)
        self.assert_shown(web, "c", {"c": 0}, True)

    def test_lengths_of_any_size(self):
        web = (("a", "b", GREAT), ("b", "c", GREAT))
        self.assert_shown(web, "a", {"a": 0, "b": GREAT, "c": 2 * GREAT}, True)
        for off in (-1, 1, -GREAT, GREAT, -3 * GREAT, 10 ** 500):
            self.assert_shown(web, "a", {"a": 0, "b": GREAT + off, "c": 2 * GREAT}, False)
            self.assert_shown(web, "a", {"a": 0, "b": GREAT, "c": 2 * GREAT + off}, False)
            self.assert_shown(web, "a", {"a": off, "b": GREAT + off, "c": 2 * GREAT + off}, False)

    def test_by_the_names_of_the_arguments(self):
        self.assertIs(lengths_shown(web=(("a", "b", 1),), first="a", lengths={"a": 0, "b": 1}), True)

    def test_all_small_papers(self):
        shown = 0
        for web in SMALL:
            right = plain.nearest(web, "a")[0]
            for numbers in itertools.product((None, -1, 0, 1, 2, 3, 4), repeat=3):
                lengths = {name: number for name, number in zip("abc", numbers) if number is not None}
                self.assert_shown(web, "a", lengths, lengths == right)
                shown += lengths == right
        self.assertEqual(shown, len(SMALL))

    def test_any_papers(self):
        dice = plain.Dice(72)
        for names, many, spread in ((4, 9, 2), (20, 60, 5), (150, 300, 9), (60, 300, GREAT)):
            for _ in range(4):
                web = any_web(dice, many, plain.many_names(names), spread)
                first = dice.one_of(web)[0]
                right = nearest(web, first)[0]
                self.assert_shown(web, first, right, True)
                for _ in range(20):
                    name = dice.one_of(plain.many_names(names + 1))
                    length = plain.any_worth(dice, spread) + dice.below(2) * right.get(name, 0)
                    paper = {**right, name: length}
                    self.assert_shown(web, first, paper, paper == right)
                    paper.pop(name)
                    self.assert_shown(web, first, paper, paper == right)


if __name__ == "__main__":
    unittest.main()
