import itertools
import unittest

from lategone.errors import Clash, NoThing
from lategone.late import Late
from lategone.twins import Twins
from tests import plain
from tests.plain import done


def filled(*things):
    return plain.filled(Twins(), *things)


def seen(heap):
    return heap.rows(), heap.things(), heap.many()


class TwinsCase(unittest.TestCase):
    def assert_refused(self, refusal, heap, *deed):
        before = seen(heap)
        with self.assertRaises(refusal) as caught:
            getattr(heap, deed[0])(*deed[1:])
        self.assertIs(type(caught.exception), refusal)
        self.assertEqual(seen(heap), before)


class Deeds(TwinsCase):
    def test_a_new_heap(self):
        self.assertEqual(seen(Twins()), (((), ()), (), 0))

    def test_put(self):
        heap = Twins()
        self.assertIsNone(heap.put("a", 3))
        self.assertIsNone(heap.put("b", 1))
        self.assertIsNone(heap.put("c", 2))
        self.assertEqual(heap.rows(), (((1, "b", 1), (3, "a", 0), (2, "c", 2)), ()))
        self.assertEqual(heap.things(), (("a", 3), ("b", 1), ("c", 2)))
        self.assertEqual(heap.many(), 3)

    def test_put_of_a_name_that_is_there(self):
        heap = filled(("a", 3), ("b", 1))
        self.assert_refused(Clash, heap, "put", "a", 3)
        self.assert_refused(Clash, heap, "put", "b", 7)
        heap.change("a", 0)
        self.assert_refused(Clash, heap, "put", "a", 3)

    def test_a_dropped_entry_is_left_and_put_into_the_second_heap(self):
        heap = filled(("a", 3), ("b", 1), ("c", 2))
        row = heap.rows()[0]
        self.assertIsNone(heap.drop("a"))
        self.assertEqual(heap.rows(), (row, ((3, "a", 0),)))
        heap.drop("c")
        self.assertEqual(heap.rows(), (row, ((2, "c", 2), (3, "a", 0))))
        heap.drop("b")
        self.assertEqual(heap.rows(), (row, ((1, "b", 1), (3, "a", 0), (2, "c", 2))))
        self.assertEqual((heap.things(), heap.many()), ((), 0))

    def test_a_changed_entry_is_left_and_put_into_the_second_heap(self):
        heap = filled(("a", 3), ("b", 1))
        self.assertIsNone(heap.change("a", 0))
        self.assertEqual(heap.rows(), (((0, "a", 2), (3, "a", 0), (1, "b", 1)), ((3, "a", 0),)))
        heap.change("a", 5)
        self.assertEqual(heap.rows()[0], ((0, "a", 2), (3, "a", 0), (1, "b", 1), (5, "a", 3)))
        self.assertEqual(heap.rows()[1], ((0, "a", 2), (3, "a", 0)))
        self.assertEqual(heap.things(), (("a", 5), ("b", 1)))
        self.assertEqual(heap.many(), 2)

    def test_change_to_the_same_worth(self):
        heap = filled(("a", 3))
        heap.change("a", 3)
        self.assertEqual(heap.rows(), (((3, "a", 0), (3, "a", 1)), ((3, "a", 0),)))
        self.assertEqual(heap.least(), (3, "a"))
        self.assertEqual(heap.rows(), (((3, "a", 1),), ()))

    def test_put_again_with_the_same_worth(self):
        heap = filled(("a", 3))
        heap.drop("a")
        heap.put("a", 3)
        self.assertEqual(heap.rows(), (((3, "a", 0), (3, "a", 1)), ((3, "a", 0),)))
        self.assertEqual(heap.take(), (3, "a"))
        self.assertEqual(seen(heap), (((), ()), (), 0))

    def test_drop_and_change_of_what_is_not_there(self):
        self.assert_refused(NoThing, Twins(), "drop", "a")
        self.assert_refused(NoThing, Twins(), "change", "a", 1)
        heap = filled(("a", 3), ("b", 1), ("d", 4))
        heap.drop("a")
        heap.take()
        for name in ("a", "b", "c"):
            self.assert_refused(NoThing, heap, "drop", name)
            self.assert_refused(NoThing, heap, "change", name, 1)

    def test_least_and_take(self):
        heap = filled(("b", 1), ("ab", 1), ("c", 0))
        self.assertEqual(heap.least(), (0, "c"))
        self.assertEqual(heap.many(), 3)
        self.assertEqual([heap.take() for _ in range(3)], [(0, "c"), (1, "ab"), (1, "b")])
        self.assertEqual(seen(heap), (((), ()), (), 0))

    def test_a_refused_deed_takes_no_stamp(self):
        heap = Twins()
        self.assert_refused(NoThing, heap, "take")
        self.assert_refused(NoThing, heap, "least")
        self.assert_refused(NoThing, heap, "change", "a", 1)
        heap.put("a", 1)
        self.assert_refused(Clash, heap, "put", "a", 2)
        self.assert_refused(NoThing, heap, "drop", "b")
        self.assert_refused(NoThing, heap, "change", "b", 2)
        heap.put("b", 2)
        self.assertEqual(heap.rows(), (((1, "a", 0), (2, "b", 1)), ()))
        self.assert_refused(Clash, heap, "put", "b", 2)
        heap.change("b", 3)
        self.assertEqual(heap.rows()[0], ((1, "a", 0), (2, "b", 1), (3, "b", 2)))


class TopsAlike(TwinsCase):
    def test_taken_out_of_both_ahead_of_least_as_long_as_they_are_the_same(self):
        heap = filled(("a", 1), ("b", 2), ("c", 3), ("d", 4))
        for name in ("a", "b", "d"):
            heap.drop(name)
        self.assertEqual(heap.least(), (3, "c"))
        self.assertEqual(heap.rows(), (((3, "c", 2), (4, "d", 3)), ((4, "d", 3),)))
        self.assertEqual(heap.least(), (3, "c"))
        self.assertEqual(heap.rows(), (((3, "c", 2), (4, "d", 3)), ((4, "d", 3),)))

    def test_taken_out_ahead_of_take_and_not_behind_it(self):
        heap = filled(("a", 1), ("b", 2), ("c", 3), ("d", 4))
        heap.drop("a")
        heap.drop("c")
        self.assertEqual(heap.take(), (2, "b"))
        self.assertEqual(heap.rows(), (((3, "c", 2), (4, "d", 3)), ((3, "c", 2),)))
        self.assertEqual(heap.take(), (4, "d"))
        self.assertEqual(heap.rows(), ((), ()))

    def test_not_ahead_of_other_deeds(self):
        heap = filled(("a", 1), ("b", 2), ("c", 3))
        heap.drop("a")
        both = heap.rows()
        self.assertEqual(both[0][0], both[1][0])
        heap.put("d", 9)
        heap.change("c", 8)
        heap.drop("b")
        heap.things()
        heap.many()
        self.assertEqual(heap.rows()[0], ((1, "a", 0), (2, "b", 1), (3, "c", 2), (9, "d", 3), (8, "c", 4)))
        self.assertEqual(heap.rows()[1], ((1, "a", 0), (3, "c", 2), (2, "b", 1)))

    def test_none_where_nothing_is_there(self):
        heap = filled(("a", 1), ("b", 2))
        heap.change("a", 0)
        heap.drop("a")
        heap.drop("b")
        both = heap.rows()
        self.assertEqual(sorted(both[0]), [(0, "a", 2), (1, "a", 0), (2, "b", 1)])
        self.assertEqual(sorted(both[1]), sorted(both[0]))
        self.assert_refused(NoThing, heap, "least")
        self.assert_refused(NoThing, heap, "take")
        heap.put("c", 1)
        self.assertEqual(len(heap.rows()[0]), 4)
        self.assertEqual(heap.rows()[1], both[1])
        self.assertEqual(heap.take(), (1, "c"))
        self.assertEqual(heap.rows(), (((2, "b", 1),), ((2, "b", 1),)))
        self.assert_refused(NoThing, heap, "take")

    def test_one_of_like_worth_and_name_that_is_there_stays(self):
        heap = filled(("a", 5))
        heap.change("a", 4)
        heap.change("a", 5)
        self.assertEqual(heap.least(), (5, "a"))
        self.assertEqual(heap.rows(), (((5, "a", 2),), ()))

    def test_never_swept(self):
        heap = filled(("a", -1), ("b", 0))
        for worth in range(1, 300):
            heap.change("b", worth)
        self.assertEqual([len(row) for row in heap.rows()], [301, 299])
        heap.drop("b")
        self.assertEqual([len(row) for row in heap.rows()], [301, 300])
        self.assertEqual(heap.take(), (-1, "a"))
        self.assertEqual([len(row) for row in heap.rows()], [300, 300])


class Telling(TwinsCase):
    def test_kinds(self):
        heap = filled(("b", 1), ("a", 2), ("c", 0))
        heap.drop("b")
        both = heap.rows()
        self.assertIs(type(both), tuple)
        self.assertEqual([type(row) for row in both], [tuple, tuple])
        self.assertEqual({type(entry) for row in both for entry in row}, {tuple})
        self.assertIs(type(heap.things()), tuple)
        self.assertEqual({type(thing) for thing in heap.things()}, {tuple})
        self.assertIs(type(heap.many()), int)
        self.assertIs(type(heap.least()), tuple)
        self.assertIs(type(heap.take()), tuple)

    def test_what_is_told_stays(self):
        heap = filled(("b", 1), ("a", 2))
        heap.drop("b")
        told = seen(heap)
        heap.change("a", 9)
        heap.put("c", 0)
        heap.take()
        heap.least()
        self.assertEqual(told, ((((1, "b", 0), (2, "a", 1)), ((1, "b", 0),)), (("a", 2),), 1))

    def test_the_same_asked_again(self):
        heap = filled(("b", 1), ("a", 2), ("c", 3))
        heap.drop("b")
        self.assertEqual(seen(heap), seen(heap))
        self.assertEqual(heap.least(), heap.least())
        self.assertEqual(seen(heap), seen(heap))

    def test_each_heap_is_its_own(self):
        one = filled(("a", 1))
        other = filled(("b", 2))
        one.put("b", 3)
        other.drop("b")
        self.assertEqual(seen(one), ((((1, "a", 0), (3, "b", 1)), ()), (("a", 1), ("b", 3)), 2))
        self.assertEqual(seen(other), ((((2, "b", 0),), ((2, "b", 0),)), (), 0))

    def test_worths_of_thirty_figures(self):
        great = plain.GREAT
        heap = filled(("a", great), ("b", -great), ("c", great - 1))
        heap.change("c", 1 - great)
        self.assertEqual([heap.take() for _ in range(3)], [(-great, "b"), (1 - great, "c"), (great, "a")])


class OverManyDeeds(TwinsCase):
    def assert_same_deed(self, heap, late, model, deed):
        """Do the deed on the three; tell whether it was refused."""
        before = seen(heap)
        told = done(heap, deed)
        self.assertEqual(told, model.do(deed), deed)
        self.assertEqual(told, done(late, deed), deed)
        after = seen(heap)
        self.assertEqual(after, model.seen(), deed)
        self.assertEqual(after[1:], (late.things(), late.many()), deed)
        if isinstance(told, list):
            self.assertEqual(after, before)
        return isinstance(told, list)

    def run_long(self, dice, slack, mixes, names, spread):
        heap, late, model = Twins(), Late(slack), plain.PlainTwins()
        for mix in mixes:
            count = 0
            tries = 0
            while count < 800 // len(mixes) and tries < 1600:
                deed = plain.any_deed(dice, mix, names, spread)
                count += not self.assert_same_deed(heap, late, model, deed)
                tries += 1
        return heap

    def test_all_short_runs(self):
        deeds = (("put", "a", 0), ("put", "ab", 0), ("change", "a", 0), ("change", "ab", -1),
                 ("drop", "a"), ("drop", "ab"), ("least",), ("take",))
        for run in itertools.product(deeds, repeat=4):
            heap, late, model = Twins(), Late(1), plain.PlainTwins()
            for deed in (("put", "a", 1),) + run:
                self.assert_same_deed(heap, late, model, deed)

    def test_long_runs_of_all_deeds(self):
        dice = plain.Dice(21)
        mix = ("put", "put", "put", "drop", "change", "change", "least", "take")
        for slack in (0, 7, plain.GREAT):
            for many in (1, 2, 5, 30, 200):
                for spread in (1, plain.GREAT):
                    self.run_long(dice, slack, (mix,), plain.many_names(many), spread)

    def test_long_runs_that_fill_churn_and_empty(self):
        dice = plain.Dice(22)
        for churn in (("change",), ("drop", "put"), ("take", "put"), ("drop", "put", "change", "least")):
            for slack in (0, 40):
                mixes = (("put",), churn, churn, ("drop", "drop", "take", "least"))
                self.run_long(dice, slack, mixes, plain.many_names(200), 20)

    def test_what_is_left_comes_out_in_order(self):
        dice = plain.Dice(23)
        mix = ("put", "put", "put", "drop", "change")
        heap = self.run_long(dice, 9, (mix, mix), plain.many_names(60), 5)
        left = sorted((worth, name) for name, worth in heap.things())
        self.assertGreater(len(left), 10)
        self.assertGreater(len(heap.rows()[1]), 100)
        self.assertEqual([heap.take() for _ in left], left)
        self.assert_refused(NoThing, heap, "take")


if __name__ == "__main__":
    unittest.main()
