import itertools
import unittest

from lategone.errors import Clash, HeapError, NoAsk, NoThing
from lategone.late import Late
from tests import plain
from tests.plain import done, seen

REFUSALS = (Clash, NoThing, NoAsk)


def filled(slack, *things):
    return plain.filled(Late(slack), *things)


class LateCase(unittest.TestCase):
    def assert_refused(self, refusal, heap, *deed):
        before = seen(heap)
        with self.assertRaises(refusal) as caught:
            getattr(heap, deed[0])(*deed[1:])
        self.assertIsInstance(caught.exception, HeapError)
        self.assertIsInstance(caught.exception, ValueError)
        for other in REFUSALS:
            self.assertEqual(isinstance(caught.exception, other), other is refusal)
        self.assertEqual(seen(heap), before)

    def assert_row_and_work(self, heap, row, work):
        self.assertEqual(heap.row(), row)
        self.assertEqual(heap.work(), work)


class Deeds(LateCase):
    def test_a_new_heap(self):
        for slack in (0, 3, plain.GREAT):
            self.assertEqual(seen(Late(slack)), ((), (), 0, 0))

    def test_put(self):
        heap = Late(9)
        self.assertIsNone(heap.put("a", 3))
        self.assert_row_and_work(heap, ((3, "a", 0),), 0)
        self.assertIsNone(heap.put("b", 1))
        self.assert_row_and_work(heap, ((1, "b", 1), (3, "a", 0)), 1)
        self.assertIsNone(heap.put("c", 2))
        self.assert_row_and_work(heap, ((1, "b", 1), (3, "a", 0), (2, "c", 2)), 2)
        self.assertEqual(heap.things(), (("a", 3), ("b", 1), ("c", 2)))
        self.assertEqual(heap.many(), 3)

    def test_put_of_a_name_that_is_there(self):
        heap = filled(9, ("a", 3), ("b", 1))
        self.assert_refused(Clash, heap, "put", "a", 3)
        self.assert_refused(Clash, heap, "put", "b", 7)

    def test_put_behind_drop_and_take(self):
        heap = filled(9, ("a", 3), ("b", 1))
        heap.drop("a")
        heap.put("a", 4)
        self.assert_row_and_work(heap, ((1, "b", 1), (3, "a", 0), (4, "a", 2)), 2)
        self.assertEqual(heap.take(), (1, "b"))
        heap.put("b", 5)
        self.assertEqual(heap.things(), (("a", 4), ("b", 5)))
        self.assertEqual(heap.least(), (4, "a"))

    def test_drop_leaves_the_entry(self):
        heap = filled(9, ("a", 3), ("b", 1), ("c", 2))
        row = heap.row()
        self.assertIsNone(heap.drop("b"))
        self.assert_row_and_work(heap, row, 2)
        self.assertEqual(heap.things(), (("a", 3), ("c", 2)))
        self.assertEqual(heap.many(), 2)

    def test_drop_of_what_is_not_there(self):
        heap = Late(9)
        self.assert_refused(NoThing, heap, "drop", "a")
        heap = filled(9, ("a", 3), ("b", 1))
        self.assert_refused(NoThing, heap, "drop", "c")
        heap.drop("a")
        self.assert_refused(NoThing, heap, "drop", "a")
        heap.take()
        self.assert_refused(NoThing, heap, "drop", "b")

    def test_change(self):
        heap = filled(9, ("a", 3), ("b", 1))
        self.assertIsNone(heap.change("a", 0))
        self.assert_row_and_work(heap, ((0, "a", 2), (3, "a", 0), (1, "b", 1)), 2)
        self.assertIsNone(heap.change("a", 5))
        self.assert_row_and_work(heap, ((0, "a", 2), (3, "a", 0), (1, "b", 1), (5, "a", 3)), 3)
        self.assertEqual(heap.things(), (("a", 5), ("b", 1)))
        self.assertEqual(heap.least(), (1, "b"))

    def test_change_to_the_same_worth(self):
        heap = filled(9, ("a", 3))
        heap.change("a", 3)
        self.assert_row_and_work(heap, ((3, "a", 0), (3, "a", 1)), 1)
        self.assertEqual(heap.things(), (("a", 3),))
        self.assertEqual(heap.least(), (3, "a"))
        self.assert_row_and_work(heap, ((3, "a", 1),), 1)

    def test_change_and_back(self):
        heap = filled(9, ("a", 3), ("b", 4))
        heap.change("a", 5)
        heap.change("a", 3)
        self.assertEqual(heap.least(), (3, "a"))
        self.assertEqual(heap.row()[0], (3, "a", 3))

    def test_change_of_what_is_not_there(self):
        heap = Late(9)
        self.assert_refused(NoThing, heap, "change", "a", 3)
        heap = filled(9, ("a", 3), ("b", 1))
        self.assert_refused(NoThing, heap, "change", "c", 3)
        heap.drop("a")
        self.assert_refused(NoThing, heap, "change", "a", 3)

    def test_least_and_take(self):
        heap = filled(9, ("a", 3), ("b", 1), ("c", 2))
        self.assertEqual(heap.least(), (1, "b"))
        self.assert_row_and_work(heap, ((1, "b", 1), (3, "a", 0), (2, "c", 2)), 2)
        self.assertEqual(heap.take(), (1, "b"))
        self.assert_row_and_work(heap, ((2, "c", 2), (3, "a", 0)), 3)
        self.assertEqual(heap.take(), (2, "c"))
        self.assertEqual(heap.things(), (("a", 3),))
        self.assertEqual(heap.take(), (3, "a"))
        self.assert_row_and_work(heap, (), 3)
        self.assertEqual(heap.many(), 0)

    def test_the_least_of_like_worths_is_the_least_name(self):
        heap = filled(9, ("b", 1), ("ab", 1), ("abcdefgh", 1), ("a", 1))
        self.assertEqual([heap.take() for _ in range(4)], [(1, "a"), (1, "ab"), (1, "abcdefgh"), (1, "b")])

    def test_gone_entries_go_ahead_of_least(self):
        heap = filled(9, ("a", 1), ("b", 2), ("c", 3), ("d", 4))
        heap.drop("a")
        heap.drop("b")
        heap.drop("d")
        self.assertEqual(heap.least(), (3, "c"))
        # The gone d is never first, so it stays.
        self.assert_row_and_work(heap, ((3, "c", 2), (4, "d", 3)), 3 + 2 + 1)
        self.assertEqual(heap.least(), (3, "c"))
        self.assert_row_and_work(heap, ((3, "c", 2), (4, "d", 3)), 6)

    def test_gone_entries_go_ahead_of_take_and_not_behind_it(self):
        heap = filled(9, ("a", 1), ("b", 2), ("c", 3), ("d", 4))
        heap.drop("a")
        heap.drop("c")
        self.assertEqual(heap.take(), (2, "b"))
        self.assert_row_and_work(heap, ((3, "c", 2), (4, "d", 3)), 3 + 2 + 1)
        self.assertEqual(heap.take(), (4, "d"))
        self.assert_row_and_work(heap, (), 6)

    def test_none_is_taken_out_where_nothing_is_there(self):
        for slack in (2, 9, plain.GREAT):
            heap = filled(slack, ("a", 1), ("b", 2))
            heap.drop("b")
            heap.drop("a")
            self.assert_row_and_work(heap, ((1, "a", 0), (2, "b", 1)), 1)
            self.assert_refused(NoThing, heap, "least")
            self.assert_refused(NoThing, heap, "take")
            self.assert_row_and_work(heap, ((1, "a", 0), (2, "b", 1)), 1)

    def test_least_and_take_of_a_new_heap(self):
        self.assert_refused(NoThing, Late(0), "least")
        self.assert_refused(NoThing, Late(0), "take")

    def test_stamps_rise_by_one_over_put_and_change_alone(self):
        heap = Late(plain.GREAT)
        heap.put("a", 0)
        heap.put("b", 1)
        heap.drop("b")
        heap.change("a", 2)
        heap.least()
        heap.put("c", 3)
        heap.take()
        heap.put("d", 4)
        self.assertEqual(heap.row(), ((3, "c", 3), (4, "d", 4)))

    def test_a_refused_deed_takes_no_stamp(self):
        heap = Late(9)
        self.assert_refused(NoThing, heap, "take")
        self.assert_refused(NoThing, heap, "change", "a", 1)
        heap.put("a", 1)
        self.assertEqual(heap.row(), ((1, "a", 0),))
        for deed in (("put", "a", 0), ("drop", "b"), ("change", "b", 0)):
            self.assertIn(done(heap, deed), (["Clash"], ["NoThing"]))
        heap.put("b", 2)
        self.assertEqual(heap.row(), ((1, "a", 0), (2, "b", 1)))
        self.assert_refused(Clash, heap, "put", "b", 0)
        heap.change("b", 3)
        self.assertEqual(heap.row()[2], (3, "b", 2))


class Sweeps(LateCase):
    five = (("a", 1), ("b", 2), ("c", 3), ("d", 4), ("e", 5))

    def test_by_drop_where_more_are_gone_than_are_there(self):
        heap = filled(0, *self.five)
        heap.drop("a")
        heap.drop("b")
        self.assertEqual(len(heap.row()), 5)
        heap.drop("c")
        self.assert_row_and_work(heap, ((4, "d", 3), (5, "e", 4)), 4 + 1)

    def test_not_where_as_many_are_gone_as_are_there(self):
        heap = filled(0, *self.five[:4])
        heap.drop("a")
        heap.drop("d")
        self.assertEqual(len(heap.row()), 4)

    def test_not_where_as_many_are_gone_as_the_slack(self):
        heap = filled(3, *self.five)
        heap.drop("a")
        heap.drop("b")
        heap.drop("c")
        self.assertEqual(len(heap.row()), 5)
        heap.drop("d")
        self.assert_row_and_work(heap, ((5, "e", 4),), 4)

    def test_by_change(self):
        heap = filled(0, ("a", 5))
        heap.change("a", 5)
        self.assert_row_and_work(heap, ((5, "a", 0), (5, "a", 1)), 1)
        heap.change("a", 5)
        self.assert_row_and_work(heap, ((5, "a", 2),), 2)

    def test_by_change_with_slack(self):
        heap = filled(2, ("a", 5))
        heap.change("a", 5)
        heap.change("a", 5)
        self.assertEqual(len(heap.row()), 3)
        heap.change("a", 5)
        self.assert_row_and_work(heap, ((5, "a", 3),), 3)

    def test_by_take(self):
        heap = filled(0, *self.five[:4])
        heap.drop("c")
        heap.drop("d")
        self.assertEqual(len(heap.row()), 4)
        self.assertEqual(heap.take(), (1, "a"))
        self.assert_row_and_work(heap, ((2, "b", 1),), 3 + 2)

    def test_to_nothing(self):
        heap = filled(0, ("a", 5))
        heap.drop("a")
        self.assert_row_and_work(heap, (), 0)
        heap.put("a", 5)
        self.assertEqual(heap.row(), ((5, "a", 1),))
        heap = filled(1, ("a", 5), ("b", 6))
        heap.drop("b")
        heap.take()
        self.assertEqual(heap.row(), ((6, "b", 1),))
        heap.put("c", 1)
        heap.drop("c")
        self.assertEqual(heap.row(), ())

    def test_in_the_order_of_the_row(self):
        heap = filled(0, ("g", 0), ("h", 1), ("i", 2), ("j", 3), ("z", 9), ("x", 7), ("y", 8))
        for name in ("g", "h", "i", "j"):
            heap.drop(name)
        self.assert_row_and_work(heap, ((7, "x", 5), (9, "z", 4), (8, "y", 6)), 6 + 2)

    def test_never_with_a_great_slack(self):
        for slack in (10 ** 29, plain.GREAT):
            heap = filled(slack, ("a", 0))
            for worth in range(1, 100):
                heap.change("a", worth)
            self.assertEqual(len(heap.row()), 100)
            heap.drop("a")
            self.assertEqual(len(heap.row()), 100)
            self.assert_refused(NoThing, heap, "take")


class Telling(LateCase):
    def test_things_by_name(self):
        heap = filled(0, ("b", 1), ("abcdefgh", 3), ("ab", 2), ("z", 0), ("a", 4))
        self.assertEqual(heap.things(), (("a", 4), ("ab", 2), ("abcdefgh", 3), ("b", 1), ("z", 0)))

    def test_worths_of_thirty_figures(self):
        great = plain.GREAT
        heap = filled(0, ("a", great), ("b", -great), ("c", great - 1), ("d", 1 - great))
        self.assertEqual([heap.take() for _ in range(4)],
                         [(-great, "b"), (1 - great, "d"), (great - 1, "c"), (great, "a")])

    def test_kinds(self):
        heap = filled(0, ("b", 1), ("a", 2))
        self.assertIs(type(heap.row()), tuple)
        self.assertEqual([type(entry) for entry in heap.row()], [tuple, tuple])
        self.assertIs(type(heap.things()), tuple)
        self.assertEqual([type(thing) for thing in heap.things()], [tuple, tuple])
        self.assertIs(type(heap.many()), int)
        self.assertIs(type(heap.work()), int)
        self.assertIs(type(heap.least()), tuple)
        self.assertIs(type(heap.take()), tuple)

    def test_what_is_told_stays(self):
        heap = filled(0, ("b", 1), ("a", 2))
        row, things, many, work, least = heap.row(), heap.things(), heap.many(), heap.work(), heap.least()
        heap.change("b", 9)
        heap.put("c", 0)
        heap.drop("a")
        heap.take()
        self.assertEqual(row, ((1, "b", 0), (2, "a", 1)))
        self.assertEqual(things, (("a", 2), ("b", 1)))
        self.assertEqual((many, work, least), (2, 1, (1, "b")))

    def test_the_same_asked_again(self):
        heap = filled(5, ("b", 1), ("a", 2), ("c", 3))
        heap.drop("b")
        self.assertEqual(seen(heap), seen(heap))
        self.assertEqual(heap.least(), heap.least())
        self.assertEqual(seen(heap), seen(heap))

    def test_each_heap_is_its_own(self):
        one = filled(0, ("a", 1))
        other = filled(0, ("b", 2))
        one.put("b", 3)
        other.drop("b")
        self.assertEqual(one.things(), (("a", 1), ("b", 3)))
        self.assertEqual(seen(other), ((), (), 0, 0))
        self.assertEqual(one.row()[1], (3, "b", 1))


class AgainstThePlainReckoning(LateCase):
    def assert_same_deed(self, heap, model, deed):
        """Do the deed on both; tell whether it was refused."""
        before = seen(heap)
        told = done(heap, deed)
        self.assertEqual(told, model.do(deed), deed)
        after = seen(heap)
        self.assertEqual(after, model.seen(), deed)
        row, things, many, work = after
        self.assertLessEqual(len(row), max(2 * many, many + model.slack))
        if isinstance(told, list):
            self.assertEqual(after, before)
        if deed[0] == "least" and many > 0:
            self.assertEqual(told, min((worth, name) for name, worth in things))
        return isinstance(told, list)

    def run_long(self, dice, slack, mixes, names, spread):
        heap = Late(slack)
        model = plain.PlainLate(slack)
        for mix in mixes:
            count = 0
            tries = 0
            while count < 800 // len(mixes) and tries < 1600:
                refused = self.assert_same_deed(heap, model, plain.any_deed(dice, mix, names, spread))
                count += not refused
                tries += 1
        return heap

    def test_all_short_runs(self):
        deeds = (("put", "a", 0), ("put", "ab", 0), ("change", "a", 0), ("change", "ab", -1),
                 ("drop", "a"), ("drop", "ab"), ("least",), ("take",))
        for slack in (0, 1, 2):
            for run in itertools.product(deeds, repeat=4):
                heap = Late(slack)
                model = plain.PlainLate(slack)
                for deed in (("put", "a", 1),) + run:
                    self.assert_same_deed(heap, model, deed)

    def test_long_runs_of_all_deeds(self):
        dice = plain.Dice(1)
        mix = ("put", "put", "put", "drop", "change", "change", "least", "take")
        for slack in (0, 1, 2, 7, 50, 10 ** 29, plain.GREAT):
            for many in (1, 2, 5, 30, 200):
                for spread in (1, plain.GREAT):
                    self.run_long(dice, slack, (mix,), plain.many_names(many), spread)

    def test_long_runs_that_fill_churn_and_empty(self):
        dice = plain.Dice(2)
        for churn in (("change",), ("drop", "put"), ("take", "put"), ("drop", "put", "change", "least")):
            for slack in (0, 3, 40, plain.GREAT):
                mixes = (("put",), churn, churn, ("drop", "drop", "take", "least"))
                self.run_long(dice, slack, mixes, plain.many_names(200), 20)

    def test_what_is_left_comes_out_in_order(self):
        dice = plain.Dice(3)
        mix = ("put", "put", "put", "drop", "change")
        for slack in (0, 9, plain.GREAT):
            heap = self.run_long(dice, slack, (mix, mix), plain.many_names(60), 5)
            left = sorted((worth, name) for name, worth in heap.things())
            self.assertGreater(len(left), 10)
            self.assertEqual([heap.take() for _ in left], left)
            self.assert_refused(NoThing, heap, "take")


if __name__ == "__main__":
    unittest.main()
