import itertools
import unittest

from lategone.errors import Clash
from lategone.late import Late
from lategone.several import firsts, put_together
from tests import plain
from tests.plain import done, seen

GREAT = plain.GREAT
SLACKS = (0, 3, 40, GREAT)
MIX = ("put", "put", "put", "drop", "change", "change", "least", "take")


def filled(slack, *things):
    return plain.filled(Late(slack), *things)


class Telltale(Late):
    """Writes its puts and drops into a list, for the order of deeds on two heaps shows in no row."""

    def __init__(self, slack, mark, deeds):
        super().__init__(slack)
        self.mark = mark
        self.deeds = deeds

    def put(self, name, worth):
        self.deeds.append((self.mark, "put", name, worth))
        super().put(name, worth)

    def drop(self, name):
        self.deeds.append((self.mark, "drop", name))
        super().drop(name)


def both_done(slack, deeds):
    """A heap and its plain reckoning, behind the deeds."""
    heap, model = Late(slack), plain.PlainLate(slack)
    for deed in deeds:
        done(heap, deed)
        model.do(deed)
    return heap, model


def any_deeds(dice, many, names, spread):
    return [plain.any_deed(dice, MIX, names, spread) for _ in range(many)]


class Firsts(unittest.TestCase):
    def assert_firsts(self, heap, k, things, places):
        before = seen(heap)
        self.assertEqual(firsts(heap, k), (things, places))
        self.assertEqual(firsts(heap, k), (things, places))
        self.assertEqual(seen(heap), before)

    def assert_as_plain(self, heap, model, k):
        things, places = plain.firsts(model, k)
        self.assert_firsts(heap, k, things, places)
        self.assertEqual(list(things), sorted((worth, name) for name, worth in heap.things())[:k])
        self.assertLessEqual(places, k + len(heap.row()) - heap.many())

    def test_of_an_empty_heap(self):
        for k in (0, 1, 7, GREAT):
            self.assert_firsts(Late(0), k, (), 0)

    def test_of_one_thing(self):
        heap = filled(0, ("a", 5))
        self.assert_firsts(heap, 0, (), 0)
        self.assert_firsts(heap, 1, ((5, "a"),), 1)
        self.assert_firsts(heap, 2, ((5, "a"),), 1)

    def test_rising_by_worth_then_name(self):
        heap = filled(9, ("b", 1), ("ab", 1), ("z", 0), ("abcdefgh", 1), ("y", -1))
        rising = ((-1, "y"), (0, "z"), (1, "ab"), (1, "abcdefgh"), (1, "b"))
        for k in range(6):
            self.assert_firsts(heap, k, rising[:k], k)
        self.assert_firsts(heap, GREAT, rising, 5)

    def test_where_all_entries_are_gone(self):
        heap = filled(9, ("a", 1), ("b", 2), ("c", 3))
        for name in ("a", "b", "c"):
            heap.drop(name)
        self.assertEqual(len(heap.row()), 3)
        self.assert_firsts(heap, 0, (), 0)
        self.assert_firsts(heap, 1, (), 3)
        self.assert_firsts(heap, 3, (), 3)

    def test_gone_entries_at_the_top(self):
        heap = filled(9, ("a", 1), ("b", 2), ("c", 3), ("d", 4))
        heap.drop("a")
        heap.drop("b")
        self.assert_firsts(heap, 0, (), 0)
        self.assert_firsts(heap, 1, ((3, "c"),), 3)
        self.assert_firsts(heap, 2, ((3, "c"), (4, "d")), 4)
        self.assert_firsts(heap, 3, ((3, "c"), (4, "d")), 4)
        self.assertEqual(len(heap.row()), 4)

    def test_gone_entries_within_and_behind(self):
        heap = filled(9, ("a", 1), ("b", 2), ("c", 3), ("d", 4), ("e", 5))
        heap.drop("c")
        heap.drop("e")
        self.assert_firsts(heap, 2, ((1, "a"), (2, "b")), 2)
        self.assert_firsts(heap, 3, ((1, "a"), (2, "b"), (4, "d")), 4)
        # All places are taken out in the search for a fourth thing, and none behind the last one asked for.
        self.assert_firsts(heap, 4, ((1, "a"), (2, "b"), (4, "d")), 5)

    def test_a_thing_changed_to_the_same_worth_is_told_once(self):
        heap = filled(9, ("a", 1), ("b", 2))
        heap.change("a", 1)
        heap.change("b", 2)
        heap.change("b", 3)
        heap.change("b", 2)
        self.assert_firsts(heap, 1, ((1, "a"),), 2)
        self.assert_firsts(heap, 2, ((1, "a"), (2, "b")), 5)
        self.assert_firsts(heap, 3, ((1, "a"), (2, "b")), 6)

    def test_it_is_no_deed(self):
        heap = filled(1, ("a", 1), ("b", 2), ("c", 3))
        heap.drop("a")
        asked = filled(1, ("a", 1), ("b", 2), ("c", 3))
        asked.drop("a")
        firsts(asked, 9)
        for deed in (("put", "d", 0), ("change", "c", 5), ("drop", "b"), ("take",), ("least",), ("take",), ("take",)):
            self.assertEqual(done(asked, deed), done(heap, deed))
            self.assertEqual(seen(asked), seen(heap))
            firsts(asked, 1)

    def test_what_is_told_stays(self):
        heap = filled(9, ("a", 1), ("b", 2))
        told = firsts(heap, 2)
        heap.drop("a")
        heap.change("b", 7)
        self.assertEqual(told, (((1, "a"), (2, "b")), 2))

    def test_kinds(self):
        told = firsts(filled(9, ("a", 1), ("b", 2)), 5)
        self.assertIs(type(told), tuple)
        self.assertIs(type(told[0]), tuple)
        self.assertEqual([type(thing) for thing in told[0]], [tuple, tuple])
        self.assertIs(type(told[1]), int)

    def test_by_the_names_of_the_arguments(self):
        self.assertEqual(firsts(heap=filled(0, ("a", 5)), k=1), (((5, "a"),), 1))

    def test_all_short_runs(self):
        deeds = (("put", "b", 1), ("put", "c", 0), ("change", "a", 1), ("change", "b", 0), ("drop", "a"), ("take",))
        for run in itertools.product(deeds, repeat=4):
            heap, model = both_done(2, (("put", "a", 0),) + run)
            for k in range(5):
                self.assert_as_plain(heap, model, k)

    def test_any_heaps(self):
        dice = plain.Dice(41)
        for slack in SLACKS:
            for many, spread in ((3, 1), (30, 9), (200, GREAT), (200, 3)):
                heap, model = both_done(slack, any_deeds(dice, 700, plain.many_names(many), spread))
                there = heap.many()
                for k in (0, 1, 2, there // 2, there - 1, there, there + 1, 300):
                    self.assert_as_plain(heap, model, max(k, 0))

    def test_of_many_gone_entries(self):
        names = plain.many_names(100)
        deeds = [("put", name, k % 7) for k, name in enumerate(names)]
        for turn in range(1, 6):
            deeds += [("change", name, (k * turn) % 11 + turn) for k, name in enumerate(names)]
        heap, model = both_done(GREAT, deeds)
        self.assertEqual(len(heap.row()), 600)
        for k in (0, 1, 10, 50, 99, 100, 101):
            self.assert_as_plain(heap, model, k)


class PutTogether(unittest.TestCase):
    def assert_together(self, one, other, comes):
        """Put together the two pairs of a heap and its plain reckoning: as [12] says, and the given one comes."""
        self.assertIs(put_together(one[0], other[0]), comes[0])
        self.assertIs(plain.put_together(one[1], other[1]), comes[1])
        for heap, model in (one, other):
            self.assertEqual(seen(heap), model.seen())
        emptied = one if comes is other else other
        self.assertEqual((emptied[0].things(), emptied[0].many()), ((), 0))
        self.assert_same_behind(one)
        self.assert_same_behind(other)

    def assert_same_behind(self, pair):
        """Stamps and slack show in what comes later."""
        heap, model = pair
        changes = [("change", "zzzzzzzz", k % 3) for k in range(30)]
        for deed in [("put", "zzzzzzzz", 1)] + changes + [("least",), ("drop", "zzzzzzzz")]:
            self.assertEqual(done(heap, deed), model.do(deed))
            self.assertEqual(seen(heap), model.seen())

    def assert_clash(self, one, other):
        before = seen(one), seen(other)
        with self.assertRaises(Clash) as caught:
            put_together(one, other)
        self.assertIs(type(caught.exception), Clash)
        self.assertEqual((seen(one), seen(other)), before)

    def test_the_second_has_fewer(self):
        one, other = filled(9, ("a", 5), ("c", 1)), filled(9, ("b", 0))
        self.assertIs(put_together(one, other), one)
        self.assertEqual(one.things(), (("a", 5), ("b", 0), ("c", 1)))
        self.assertEqual(one.row(), ((0, "b", 2), (5, "a", 0), (1, "c", 1)))
        self.assertEqual(one.work(), 2)
        self.assertEqual(seen(other), (((0, "b", 0),), (), 0, 0))

    def test_the_first_has_fewer(self):
        one, other = filled(0, ("b", 0)), filled(9, ("a", 5), ("c", 1))
        self.assertIs(put_together(one, other), other)
        self.assertEqual(other.things(), (("a", 5), ("b", 0), ("c", 1)))
        self.assertEqual(other.row(), ((0, "b", 2), (5, "a", 0), (1, "c", 1)))
        self.assertEqual(seen(one), ((), (), 0, 0))

    def test_of_like_numbers_those_of_the_second_are_moved(self):
        one, other = filled(9, ("b", 2), ("d", 4)), filled(9, ("c", 3), ("a", 1))
        self.assertIs(put_together(one, other), one)
        # By name: a has the stamp ahead of c's.
        self.assertEqual(sorted(one.row()), [(1, "a", 2), (2, "b", 0), (3, "c", 3), (4, "d", 1)])
        self.assertEqual(other.things(), ())
        self.assertEqual(sorted(other.row()), [(1, "a", 1), (3, "c", 0)])

    def test_each_is_dropped_first(self):
        deeds = []
        one = plain.filled(Telltale(0, "one", deeds), ("x", 0), ("y", 0))
        other = plain.filled(Telltale(0, "other", deeds), ("c", 3), ("a", 1))
        deeds.clear()
        put_together(one, other)
        self.assertEqual(deeds, [("other", "drop", "a"), ("one", "put", "a", 1),
                                 ("other", "drop", "c"), ("one", "put", "c", 3)])

    def test_fewer_by_things_and_not_by_entries(self):
        one, other = filled(99, ("a", 1)), filled(99, ("b", 2), ("c", 3))
        for worth in range(9):
            one.change("a", worth)
        self.assertIs(put_together(one, other), other)
        self.assertEqual(other.things(), (("a", 8), ("b", 2), ("c", 3)))
        self.assertEqual((len(one.row()), len(other.row())), (10, 3))

    def test_with_empty_heaps(self):
        for slack in SLACKS:
            one, other = Late(slack), Late(slack)
            self.assertIs(put_together(one, other), one)
            self.assertEqual((seen(one), seen(other)), (((), (), 0, 0), ((), (), 0, 0)))
            full = filled(slack, ("a", 1), ("b", 2))
            before = seen(full)
            self.assertIs(put_together(full, one), full)
            self.assertIs(put_together(one, full), full)
            self.assertEqual((seen(one), seen(full)), (((), (), 0, 0), before))

    def test_with_one_whose_entries_are_all_gone(self):
        one, other = filled(9, ("a", 1), ("b", 2)), filled(9, ("c", 3))
        one.drop("a")
        one.drop("b")
        row = one.row()
        self.assertIs(put_together(one, other), other)
        self.assertEqual((one.row(), one.things()), (row, ()))
        self.assertEqual(other.row(), ((3, "c", 0),))

    def test_a_name_in_both(self):
        for others in ((("b", 2),), (("c", 9), ("b", 1)), (("a", 1), ("z", 0)),
                       (("c", 0), ("d", 1), ("e", 1), ("b", 2))):
            one, other = filled(2, ("a", 1), ("b", 2)), filled(0, *others)
            self.assert_clash(one, other)
            self.assert_clash(other, one)
            # No stamp was taken either.
            one.put("x", 7)
            other.put("x", 7)
            self.assertEqual(max(one.row(), key=lambda entry: entry[2]), (7, "x", 2))
            self.assertEqual(max(other.row(), key=lambda entry: entry[2]), (7, "x", len(others)))

    def test_the_last_name_of_many_in_both(self):
        names = plain.many_names(60)
        one = filled(0, *[(name, k) for k, name in enumerate(names)])
        other = filled(0, *[(name[:7] + "q", k) for k, name in enumerate(names[7:40:8])], (max(names), 0))
        self.assert_clash(one, other)
        self.assert_clash(other, one)

    def test_a_name_that_is_gone_is_in_none(self):
        one, other = filled(9, ("a", 1), ("b", 2)), filled(9, ("b", 3), ("c", 4))
        one.drop("b")
        self.assertIs(put_together(one, other), other)
        self.assertEqual(other.things(), (("a", 1), ("b", 3), ("c", 4)))
        self.assertIs(put_together(one, other), other)

    def test_one_with_itself(self):
        heap = filled(9, ("a", 1))
        self.assert_clash(heap, heap)
        heap.put("b", 0)
        self.assert_clash(heap, heap)
        heap.drop("a")
        heap.drop("b")
        before = seen(heap)
        self.assertIs(put_together(heap, heap), heap)
        self.assertEqual(seen(heap), before)
        empty = Late(0)
        self.assertIs(put_together(empty, empty), empty)

    def test_the_lesser_one_goes_on(self):
        one, other = filled(9, ("a", 1), ("b", 2)), filled(0, ("c", 3))
        put_together(one, other)
        other.put("a", 7)
        self.assertEqual(other.row(), ((7, "a", 1),))
        self.assertEqual(one.things(), (("a", 1), ("b", 2), ("c", 3)))
        other.drop("a")
        one.drop("c")
        other.put("c", 5)
        self.assertEqual(other.things(), (("c", 5),))

    def test_each_is_swept_by_its_own_slack(self):
        lesser = [("put", name, k) for k, name in enumerate("fghij")]
        greater = [("put", name, k) for k, name in enumerate("abcdepqr")]
        for slack, other_slack in itertools.product((0, 2, 3, 4, 5), repeat=2):
            one, other = both_done(slack, greater), both_done(other_slack, lesser)
            self.assert_together(one, other, one)
            one, other = both_done(slack, lesser), both_done(other_slack, greater)
            self.assert_together(one, other, other)

    def test_by_the_names_of_the_arguments(self):
        one, other = filled(0, ("a", 1)), filled(0, ("b", 1))
        self.assertIs(put_together(one=one, other=other), one)

    def test_any_heaps(self):
        dice = plain.Dice(42)
        names = plain.many_names(120)
        for slack, other_slack in itertools.product(SLACKS, repeat=2):
            for here, there, spread in ((40, 80, 9), (80, 40, GREAT), (1, 119, 1), (60, 60, 3)):
                one = both_done(slack, any_deeds(dice, 300, names[:here], spread))
                other = both_done(other_slack, any_deeds(dice, 300, names[-there:], spread))
                comes = other if one[0].many() < other[0].many() else one
                self.assert_together(one, other, comes)

    def test_any_heaps_with_names_in_both(self):
        dice = plain.Dice(43)
        names = plain.many_names(12)
        clashes = 0
        for _ in range(200):
            one = both_done(2, any_deeds(dice, 9, names[:7], 9))
            other = both_done(2, any_deeds(dice, 9, names[5:], 9))
            if set(dict(one[0].things())) & set(dict(other[0].things())):
                self.assert_clash(one[0], other[0])
                self.assertEqual(plain.put_together(one[1], other[1]), ["Clash"])
                clashes += 1
            else:
                comes = other if one[0].many() < other[0].many() else one
                self.assert_together(one, other, comes)
        self.assertGreater(clashes, 10)
        self.assertLess(clashes, 190)


class Moves(unittest.TestCase):
    def all_put_together(self, many, pick):
        """Heaps of one thing each, put together two by two as picked, till one is left: the most moves of a thing."""
        heaps = [filled(k % 4, (name, k * 7 % 5)) for k, name in enumerate(plain.many_names(many))]
        things = tuple(sorted(thing for heap in heaps for thing in heap.things()))
        moves = dict.fromkeys(dict(things), 0)
        while len(heaps) > 1:
            one, other = [heaps.pop(place) for place in pick(len(heaps))]
            homes = {name: heap for heap in (one, other) for name, _ in heap.things()}
            comes = put_together(one, other)
            for name, home in homes.items():
                moves[name] += home is not comes
            heaps.append(comes)
        self.assertEqual(heaps[0].things(), things)
        halvings = 0
        while many > 1:
            many //= 2
            halvings += 1
        self.assertLessEqual(max(moves.values()), halvings)
        return max(moves.values())

    def test_one_heap_alone(self):
        self.assertEqual(self.all_put_together(1, None), 0)

    def test_like_ones_first(self):
        for many, most in ((2, 1), (4, 2), (8, 3), (64, 6), (128, 7)):
            self.assertEqual(self.all_put_together(many, lambda left: (0, 0)), most)
        for many in (3, 5, 7, 100, 127, 200):
            self.all_put_together(many, lambda left: (0, 0))

    def test_each_into_the_one_before(self):
        for many in (2, 3, 5, 100, 200):
            self.assertEqual(self.all_put_together(many, lambda left: (left - 1, 0)), 1)
            self.assertEqual(self.all_put_together(many, lambda left: (0, left - 2)), 1)

    def test_in_all_ways(self):
        for many in (2, 3, 4, 5):
            ways = [itertools.permutations(range(left), 2) for left in range(many, 1, -1)]
            for way in itertools.product(*ways):
                picks = {many - step: pair for step, pair in enumerate(way)}
                self.all_put_together(many, lambda left: self.places(picks[left]))

    def places(self, pair):
        # The second place is counted in what is left behind the first.
        return pair[0], pair[1] - (pair[1] > pair[0])

    def test_in_any_order(self):
        dice = plain.Dice(44)
        for many in (6, 9, 17, 33, 100, 200):
            for _ in range(5):
                self.all_put_together(many, lambda left: (dice.below(left), dice.below(left - 1)))


if __name__ == "__main__":
    unittest.main()
