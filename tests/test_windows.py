import itertools
import unittest
from unittest import mock

from lategone.late import Late
from lategone.windows import greatests, leasts, middles, shares
from tests import plain

GREAT = plain.GREAT
SHARES = ((0, 1), (1, 1), (1, 2), (2, 4), (1, 3), (2, 3), (3, 4), (1, 10), (9, 10), (0, 7), (7, 7), (99, 100),
          (0, GREAT), (GREAT, GREAT), (1, GREAT), (GREAT - 1, GREAT), (GREAT // 2, GREAT), (GREAT // 2 + 1, GREAT))


def shares_of_width(width):
    """Parts of the width and of its neighbours: in between the places change."""
    return [(part, whole) for whole in (width - 1, width, width + 1) if whole > 0
            for part in {0, 1, whole // 2, whole - 1, whole} if 0 <= part <= whole]


class Watched(unittest.TestCase):
    def told(self, tell, row, *rest):
        """What is told, asked of a list and of a tuple, each left as it was, and twice."""
        cells = list(row)
        told = tell(cells, *rest)
        self.assertEqual(cells, list(row))
        self.assertEqual(tell(tuple(row), *rest), told)
        self.assertEqual(tell(cells, *rest), told)
        self.assertIs(type(told), tuple)
        for worth in told:
            self.assertIs(type(worth), int)
        cells.clear()
        return told

    def assert_ends(self, row, width):
        windows = plain.windows(list(row), width)
        self.assertEqual(self.told(leasts, row, width), tuple(min(window) for window in windows))
        self.assertEqual(self.told(greatests, row, width), tuple(max(window) for window in windows))

    def assert_shares(self, row, width, parts):
        windows = plain.windows(list(row), width)
        middle = tuple(window[(width - 1) // 2] for window in windows)
        self.assertEqual(self.told(middles, row, width), middle)
        for part, whole in parts:
            right = tuple(window[(width - 1) * part // whole] for window in windows)
            self.assertEqual(self.told(shares, row, width, (part, whole)), right, (row, width, part, whole))

    def assert_all(self, row, width):
        self.assert_ends(row, width)
        self.assert_shares(row, width, SHARES + tuple(shares_of_width(width)))
        self.assertEqual(shares(row, width, (1, 2)), middles(row, width))
        self.assertEqual(shares(row, width, (0, 1)), leasts(row, width))
        self.assertEqual(shares(row, width, (1, 1)), greatests(row, width))


class Ends(Watched):
    """[13]"""

    def test_of_the_empty_row(self):
        for width in (1, 2, 300, GREAT):
            self.assertEqual(self.told(leasts, (), width), ())
            self.assertEqual(self.told(greatests, (), width), ())

    def test_of_one_worth(self):
        for worth in (0, 7, -7, GREAT, -GREAT):
            self.assertEqual(self.told(leasts, (worth,), 1), (worth,))
            self.assertEqual(self.told(greatests, (worth,), 1), (worth,))
            self.assertEqual(self.told(leasts, (worth,), 2), ())
            self.assertEqual(self.told(greatests, (worth,), 2), ())

    def test_of_many(self):
        row = (3, 1, 4, 1, 5, 9, 2, 6)
        self.assertEqual(self.told(leasts, row, 3), (1, 1, 1, 1, 2, 2))
        self.assertEqual(self.told(greatests, row, 3), (4, 4, 5, 9, 9, 9))

    def test_width_one_is_the_row(self):
        row = (3, -1, 4, -1, 5)
        self.assertEqual(self.told(leasts, row, 1), row)
        self.assertEqual(self.told(greatests, row, 1), row)

    def test_width_of_the_length_and_above(self):
        row = (3, -1, 4, -1, 5)
        self.assertEqual(self.told(leasts, row, 5), (-1,))
        self.assertEqual(self.told(greatests, row, 5), (5,))
        for width in (6, 7, 300, GREAT):
            self.assertEqual(self.told(leasts, row, width), ())
            self.assertEqual(self.told(greatests, row, width), ())

    def test_by_the_names_of_the_arguments(self):
        self.assertEqual(leasts(row=[2, 1], width=1), (2, 1))
        self.assertEqual(greatests(row=[2, 1], width=2), (2,))

    def test_by_one_heap_each_next_put_in_and_the_one_left_behind_dropped(self):
        row = (5, -2, 5, 0, 7, 5, 1)
        for tell, worths in ((leasts, list(row)), (greatests, [-worth for worth in row])):
            for width in range(1, 9):
                with mock.patch.object(Late, "put", autospec=True, side_effect=Late.put) as put, \
                        mock.patch.object(Late, "drop", autospec=True, side_effect=Late.drop) as drop:
                    tell(row, width)
                calls = put.call_args_list + drop.call_args_list
                self.assertEqual(len({id(call.args[0]) for call in calls}), 1)
                self.assertEqual([call.args[2] for call in put.call_args_list], worths)
                names = [call.args[1] for call in put.call_args_list]
                self.assertEqual([call.args[1] for call in drop.call_args_list], names[:max(7 - width, 0)])


class Shares(Watched):
    """[14]"""

    def test_of_the_empty_row(self):
        for width in (1, 2, 300, GREAT):
            self.assertEqual(self.told(middles, (), width), ())
            for share in SHARES:
                self.assertEqual(self.told(shares, (), width, share), ())

    def test_of_one_worth(self):
        for worth in (0, 7, -7, GREAT, -GREAT):
            self.assertEqual(self.told(middles, (worth,), 1), (worth,))
            self.assertEqual(self.told(middles, (worth,), 2), ())
            for share in SHARES:
                self.assertEqual(self.told(shares, (worth,), 1, share), (worth,))
                self.assertEqual(self.told(shares, (worth,), 2, share), ())

    def test_middles_of_odd_and_even_widths(self):
        row = (9, 1, 8, 2, 7, 3)
        self.assertEqual(self.told(middles, row, 1), row)
        self.assertEqual(self.told(middles, row, 2), (1, 1, 2, 2, 3))
        self.assertEqual(self.told(middles, row, 3), (8, 2, 7, 3))
        self.assertEqual(self.told(middles, row, 4), (2, 2, 3))
        self.assertEqual(self.told(middles, row, 5), (7, 3))
        self.assertEqual(self.told(middles, row, 6), (3,))
        self.assertEqual(self.told(middles, row, 7), ())

    def test_each_place_by_its_share(self):
        row = (40, 10, 30, 20, 0)
        for place in range(5):
            self.assertEqual(self.told(shares, row, 5, (place, 4)), (10 * place,))
        # One before the next place is reached it is still the one before.
        self.assertEqual(self.told(shares, row, 5, (2 * GREAT - 1, 4 * GREAT)), (10,))
        self.assertEqual(self.told(shares, row, 5, (2 * GREAT, 4 * GREAT)), (20,))

    def test_width_above_the_length(self):
        for width in (6, 7, 300, GREAT):
            self.assertEqual(self.told(middles, (3, -1, 4, -1, 5), width), ())
            for share in SHARES:
                self.assertEqual(self.told(shares, (3, -1, 4, -1, 5), width, share), ())

    def test_by_the_names_of_the_arguments(self):
        self.assertEqual(middles(row=[2, 1], width=2), (1,))
        self.assertEqual(shares(row=[2, 1], width=2, share=(1, 1)), (2,))

    def test_by_two_heaps(self):
        with mock.patch.object(Late, "put", autospec=True, side_effect=Late.put) as put:
            middles((5, 1, 4, 2, 3), 3)
        self.assertEqual(len({id(call.args[0]) for call in put.call_args_list}), 2)


class Rows(Watched):
    """All four, window by window."""

    def test_alike_rising_falling(self):
        for row in ([4] * 12, [-4] * 12, list(range(-6, 6)), list(range(6, -6, -1)), [1, 1, 2, 2, 3, 3, 2, 2, 1, 1],
                    [0, 9] * 6, [9, 9, 0] * 4, [GREAT, -GREAT] * 5, [10 ** 29 + k * 7 % 5 for k in range(12)],
                    [-GREAT + k // 3 for k in range(12)]):
            for width in range(1, len(row) + 3):
                self.assert_all(row, width)

    def test_all_short_rows(self):
        for many in range(6):
            for row in itertools.product((-1, 0, 1), repeat=many):
                for width in range(1, many + 2):
                    self.assert_ends(row, width)
                    self.assert_shares(row, width, ((0, 1), (1, 3), (2, 3), (1, 1)))

    def test_any_rows(self):
        dice = plain.Dice(61)
        for spread in (1, 9, GREAT):
            for _ in range(12):
                many = dice.below(40) + 1
                row = [plain.any_worth(dice, spread) for _ in range(many)]
                self.assert_all(row, dice.below(many) + 1)

    def test_long_rows(self):
        dice = plain.Dice(62)
        for spread in (2, 1000, GREAT):
            row = [plain.any_worth(dice, spread) for _ in range(300)]
            for width in (1, 2, 3, 26, 27, 149, 150, 299, 300, 301):
                self.assert_ends(row, width)
                self.assert_shares(row, width, ((1, 4), (GREAT // 3, GREAT), (width - 1, width)))
        for row in (range(300), range(300, 0, -1), [7] * 300, [k * k % 101 for k in range(300)]):
            self.assert_ends(row, 100)
            self.assert_shares(row, 100, ((1, 4), (98, 99), (1, 1)))


if __name__ == "__main__":
    unittest.main()
