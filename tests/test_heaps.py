import itertools
import unittest

from lategone.errors import Clash, HeapError, NoAsk, NoThing
from lategone.rows.heaps import first_wrong, made, put_in, taken
from tests import plain

NAMES = ("a", "ab", "abcdefgh", "b", "z")
SPREADS = (0, 1, 20, plain.GREAT)
LENGTHS = tuple(range(18)) + (31, 32, 33, 64, 127, 255, 299, 300)


def entries(*worths):
    return tuple((worth, "n", 0) for worth in worths)


def any_rows(lengths=LENGTHS):
    for length, spread in itertools.product(lengths, SPREADS):
        dice = plain.Dice(length)
        yield tuple(plain.any_entry(dice, spread, NAMES) for _ in range(length))


def any_heaps(lengths=LENGTHS):
    for row in any_rows(lengths):
        yield plain.made(row)[0]
        yield tuple(sorted(row))


def small_rows():
    """All rows of up to six entries of four kinds, with like ones."""
    kinds = ((0, "a", 0), (0, "a", 1), (0, "b", 0), (1, "a", 0))
    for length in range(7):
        yield from itertools.product(kinds, repeat=length)


def small_heaps():
    return (row for row in small_rows() if plain.first_wrong(row) is None)


class RowCase(unittest.TestCase):
    def assert_kinds(self, told):
        """What is told ends with a row of entries and a number of looks."""
        self.assertIs(type(told), tuple)
        self.assertIs(type(told[-2]), tuple)
        for entry in told[-2]:
            self.assertIs(type(entry), tuple)
        self.assertIs(type(told[-1]), int)


class FirstWrong(RowCase):
    def test_none_and_one(self):
        self.assertIsNone(first_wrong(()))
        self.assertIsNone(first_wrong(entries(5)))

    def test_two(self):
        self.assertIsNone(first_wrong(entries(1, 2)))
        self.assertIsNone(first_wrong(entries(2, 2)))
        self.assertEqual(first_wrong(entries(2, 1)), 1)

    def test_many(self):
        self.assertIsNone(first_wrong(entries(1, 5, 2, 6, 7, 3, 4)))
        self.assertEqual(first_wrong(entries(1, 5, 2, 6, 4, 3, 4)), 4)
        self.assertEqual(first_wrong(entries(1, 5, 2, 6, 7, 1, 4)), 5)
        self.assertEqual(first_wrong(entries(1, 5, 2, 6, 7, 3, 1)), 6)

    def test_the_first_place_and_not_a_later_one(self):
        self.assertEqual(first_wrong(entries(4, 3, 2, 1)), 1)
        self.assertEqual(first_wrong(entries(2, 2, 1, 1, 1)), 2)
        self.assertEqual(first_wrong(entries(2, 2, 2, 1, 1, 1, 1)), 3)

    def test_each_one_is_held_against_that_above_and_not_the_one_ahead(self):
        self.assertIsNone(first_wrong(entries(0, 9, 1, 10, 11, 2, 3)))

    def test_worths_alike_the_name_decides(self):
        self.assertIsNone(first_wrong(((1, "a", 9), (1, "ab", 0), (1, "b", 0))))
        self.assertEqual(first_wrong(((1, "ab", 0), (1, "b", 0), (1, "a", 9))), 2)

    def test_names_alike_the_stamp_decides(self):
        self.assertIsNone(first_wrong(((1, "a", 9), (1, "a", 10))))
        self.assertIsNone(first_wrong(((1, "a", 9), (1, "a", 9))))
        self.assertEqual(first_wrong(((1, "a", 10), (1, "a", 9))), 1)

    def test_worths_of_thirty_figures(self):
        great = plain.GREAT
        self.assertIsNone(first_wrong(entries(-great, -great + 1, great - 1, great)))
        self.assertEqual(first_wrong(entries(-great + 1, great, -great)), 2)

    def test_all_small_rows(self):
        for row in small_rows():
            self.assertEqual(first_wrong(row), plain.first_wrong(row), row)

    def test_heaps_and_heaps_with_one_entry_exchanged(self):
        dice = plain.Dice(7)
        for heap in any_heaps():
            self.assertIsNone(first_wrong(heap))
            for place in range(0, len(heap), len(heap) // 16 + 1):
                for entry in (plain.any_entry(dice, 20, NAMES), (-plain.GREAT, "a", 0), (plain.GREAT, "zz", 9)):
                    row = heap[:place] + (entry,) + heap[place + 1:]
                    self.assertEqual(first_wrong(row), plain.first_wrong(row), row)

    def test_the_same_asked_again(self):
        row = entries(1, 2, 0)
        self.assertEqual([first_wrong(row), first_wrong(row)], [2, 2])


class PutIn(RowCase):
    def check(self, heap, entry):
        kept = tuple(heap)
        told = put_in(heap, entry)
        self.assertEqual(told, plain.put_in(heap, entry))
        self.assert_kinds(told)
        self.assertEqual(sorted(told[0]), sorted(heap + (entry,)))
        self.assertIsNone(plain.first_wrong(told[0]))
        self.assertEqual(heap, kept)
        self.assertEqual(put_in(heap, entry), told)

    def test_into_an_empty_heap(self):
        self.assertEqual(put_in((), (3, "a", 0)), (((3, "a", 0),), 0))

    def test_less_than_all(self):
        told = put_in(entries(1, 2, 3, 4, 5, 6, 7), (0, "n", 0))
        self.assertEqual(told, (entries(0, 1, 3, 2, 5, 6, 7, 4), 3))

    def test_greater_than_all(self):
        told = put_in(entries(1, 2, 3, 4, 5, 6, 7), (8, "n", 0))
        self.assertEqual(told, (entries(1, 2, 3, 4, 5, 6, 7, 8), 1))

    def test_half_way(self):
        told = put_in(entries(1, 3, 4, 5, 6, 7, 8), (2, "n", 0))
        self.assertEqual(told, (entries(1, 2, 4, 3, 6, 7, 8, 5), 3))

    def test_like_one_that_is_there(self):
        self.assertEqual(put_in(entries(1, 1), (1, "n", 0)), (entries(1, 1, 1), 1))
        self.assertEqual(put_in(entries(1, 2, 3, 4), (2, "n", 0)), (entries(1, 2, 3, 4, 2), 1))

    def test_name_and_stamp_decide(self):
        self.assertEqual(put_in(((1, "b", 0),), (1, "ab", 7)), (((1, "ab", 7), (1, "b", 0)), 1))
        self.assertEqual(put_in(((1, "a", 0),), (1, "ab", 7)), (((1, "a", 0), (1, "ab", 7)), 1))
        self.assertEqual(put_in(((1, "a", 8),), (1, "a", 7)), (((1, "a", 7), (1, "a", 8)), 1))

    def test_all_small_heaps(self):
        for heap in small_heaps():
            for entry in ((0, "a", 0), (0, "a", 1), (1, "a", 0), (2, "a", 0)):
                self.check(heap, entry)

    def test_any_heaps(self):
        dice = plain.Dice(11)
        for heap in any_heaps():
            self.check(heap, (-plain.GREAT - 1, "a", 0))
            self.check(heap, (plain.GREAT + 1, "a", 0))
            self.check(heap, plain.any_entry(dice, 20, NAMES))
            self.check(heap, dice.one_of(heap + ((0, "a", 0),)))


class Taken(RowCase):
    def check(self, heap):
        kept = tuple(heap)
        told = taken(heap)
        self.assertEqual(told, plain.taken(heap))
        self.assert_kinds(told)
        self.assertEqual([told[0]] + sorted(told[1]), sorted(heap))
        self.assertIsNone(plain.first_wrong(told[1]))
        self.assertEqual(heap, kept)
        self.assertEqual(taken(heap), told)

    def test_of_an_empty_heap(self):
        with self.assertRaises(NoThing) as caught:
            taken(())
        self.assertIsInstance(caught.exception, HeapError)
        self.assertIsInstance(caught.exception, ValueError)
        self.assertNotIsInstance(caught.exception, (Clash, NoAsk))

    def test_of_one_two_three(self):
        self.assertEqual(taken(entries(4)), ((4, "n", 0), (), 0))
        self.assertEqual(taken(entries(4, 5)), ((4, "n", 0), entries(5), 0))
        self.assertEqual(taken(entries(4, 5, 6)), ((4, "n", 0), entries(5, 6), 1))
        self.assertEqual(taken(entries(4, 6, 5)), ((4, "n", 0), entries(5, 6), 1))

    def test_of_four(self):
        self.assertEqual(taken(entries(1, 2, 3, 4))[1:], (entries(2, 4, 3), 2))
        self.assertEqual(taken(entries(1, 3, 2, 4))[1:], (entries(2, 3, 4), 2))

    def test_the_look_that_ends_it_counts(self):
        # 5 goes down once, to the place above 10 and 11, which are looked at in vain.
        told = taken(entries(1, 2, 3, 10, 11, 4, 5))
        self.assertEqual(told[1:], (entries(2, 5, 3, 10, 11, 4), 4))

    def test_one_beneath_is_one_look(self):
        told = taken(entries(1, 2, 9, 3, 10, 11, 12, 4, 8))
        self.assertEqual(told[1:], (entries(2, 3, 9, 4, 10, 11, 12, 8), 5))

    def test_of_like_ones_beneath_the_nearer_one(self):
        # Both worths 2 are like ones: the one at 1 goes up, so 9 comes to lie at 1.
        self.assertEqual(taken(entries(1, 2, 2, 9))[1:], (entries(2, 9, 2), 2))
        told = taken(entries(1, 2, 2, 3, 4, 5, 6, 9))
        self.assertEqual(told[1:], (entries(2, 3, 2, 9, 4, 5, 6), 4))

    def test_all_alike(self):
        self.assertEqual(taken(entries(2, 2, 2, 2, 2))[1:], (entries(2, 2, 2, 2), 2))

    def test_name_and_stamp_decide(self):
        heap = ((1, "a", 0), (1, "b", 1), (1, "ab", 5), (1, "c", 0))
        self.assertEqual(taken(heap)[1:], (((1, "ab", 5), (1, "b", 1), (1, "c", 0)), 2))
        heap = ((1, "a", 0), (1, "a", 3), (1, "a", 2), (1, "a", 4))
        self.assertEqual(taken(heap)[1:], (((1, "a", 2), (1, "a", 3), (1, "a", 4)), 2))

    def test_all_small_heaps(self):
        for heap in small_heaps():
            if heap:
                self.check(heap)

    def test_any_heaps(self):
        for heap in any_heaps():
            if heap:
                self.check(heap)

    def test_taken_till_none_is_left(self):
        for row in any_rows((1, 2, 3, 17, 64)):
            heap = made(row)[0]
            order = []
            while heap:
                entry, heap, looks = taken(heap)
                order.append(entry)
            self.assertEqual(order, sorted(row))


class Made(RowCase):
    def check(self, row):
        kept = tuple(row)
        told = made(row)
        self.assertEqual(told, plain.made(row))
        self.assert_kinds(told)
        self.assertEqual(sorted(told[0]), sorted(row))
        self.assertIsNone(plain.first_wrong(told[0]))
        self.assertEqual(row, kept)
        self.assertEqual(made(row), told)

    def test_none_and_one(self):
        self.assertEqual(made(()), ((), 0))
        self.assertEqual(made(entries(3)), (entries(3), 0))

    def test_two_and_three(self):
        self.assertEqual(made(entries(1, 2)), (entries(1, 2), 1))
        self.assertEqual(made(entries(2, 1)), (entries(1, 2), 1))
        self.assertEqual(made(entries(3, 2, 1)), (entries(1, 2, 3), 2))
        self.assertEqual(made(entries(3, 1, 2)), (entries(1, 3, 2), 2))
        self.assertEqual(made(entries(3, 1, 1)), (entries(1, 3, 1), 2))

    def test_rising(self):
        self.assertEqual(made(entries(1, 2, 3, 4, 5, 6, 7)), (entries(1, 2, 3, 4, 5, 6, 7), 6))

    def test_falling(self):
        self.assertEqual(made(entries(7, 6, 5, 4, 3, 2, 1)), (entries(1, 3, 2, 4, 6, 7, 5), 8))

    def test_all_alike(self):
        self.assertEqual(made(entries(1, 1, 1, 1, 1, 1)), (entries(1, 1, 1, 1, 1, 1), 5))

    def test_rising_falling_and_alike_of_any_length(self):
        for length in LENGTHS:
            self.check(entries(*range(length)))
            self.check(entries(*range(length, 0, -1)))
            self.check(entries(*[5] * length))

    def test_all_small_rows(self):
        for row in small_rows():
            self.check(row)

    def test_all_orders_of_seven(self):
        for order in itertools.permutations(range(7)):
            row = entries(*order)
            self.assertEqual(made(row), plain.made(row))

    def test_any_rows(self):
        for row in any_rows():
            self.check(row)


if __name__ == "__main__":
    unittest.main()
