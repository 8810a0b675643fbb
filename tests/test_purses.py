import itertools
import unittest

from lategone.errors import Clash, NoThing
from lategone.purses import ledger, ledger_shown, tariff
from tests import plain

GREAT = plain.GREAT
SLACKS = (0, 1, 3, 20, GREAT)
MIX = ("put", "put", "put", "drop", "change", "change", "least", "take")
TARIFFS = ((0, 0, 0, 0, 0), (1, 2, 3, 4, 5), (2, 0, 1, 0, 3), (GREAT, GREAT - 1, 0, 10 ** 29, GREAT),
           (29, 29, 58, 29, 0))
RUN = (("put", "b", 4), ("put", "c", 3), ("put", "a", 2), ("change", "b", 1), ("least",), ("put", "d", 0),
       ("drop", "c"), ("change", "d", 7), ("take",), ("drop", "a"), ("take",), ("put", "c", 3), ("least",))


def any_run(dice, many, names, spread, slack):
    """So many deeds of which a heap with this slack refuses none."""
    heap = plain.PlainLate(slack)
    run = []
    while len(run) < many:
        deed = plain.any_deed(dice, MIX, names, spread)
        if not isinstance(heap.do(deed), list):
            run.append(deed)
    return run


def least_bound(deeds, slack):
    """The least b for which the heap never has more than 2 ** b entries."""
    heap = plain.PlainLate(slack)
    for deed in deeds:
        heap.do(deed)
    bound = 0
    while 2 ** bound < heap.most:
        bound += 1
    return bound


def fitted(start, churn, end):
    """As many rounds of the churn as fit into 610 deeds."""
    return start + churn * ((610 - len(start) - len(end)) // len(churn)) + end


def wearing_runs(names):
    """Runs of at most 610 deeds that leave much work to be done late."""
    rising = [("put", name, k) for k, name in enumerate(names)]
    falling = [("put", name, -k) for k, name in enumerate(names)]
    up = [("change", name, 300 + k) for k, name in enumerate(names)]
    down = [("change", name, -300 - k) for k, name in enumerate(names)]
    drops = [("drop", name) for name in names]
    takes = [("take",) for _ in names]
    least = [("least",)]
    yield fitted(rising, up, [])
    yield fitted(falling, down + up, least + takes)
    yield fitted(falling, up + least + down + least, drops[1:] + takes[:1])
    yield fitted([], falling + drops, [])
    yield fitted([], falling + drops[1:] + least + takes[:1], [])
    yield fitted([], rising + drops[:-1] + least + drops[-1:], [])
    yield fitted([], falling + takes, [])
    yield fitted([], rising + down + drops[::2] + takes[1::2], [])


class Tariff(unittest.TestCase):
    def test_bounds(self):
        self.assertEqual(tariff(0), (5, 5, 10, 5, 0))
        self.assertEqual(tariff(1), (8, 8, 16, 8, 0))
        self.assertEqual(tariff(2), (11, 11, 22, 11, 0))
        self.assertEqual(tariff(8), (29, 29, 58, 29, 0))
        self.assertEqual(tariff(10 ** 30), (3 * 10 ** 30 + 5, 3 * 10 ** 30 + 5, 6 * 10 ** 30 + 10, 3 * 10 ** 30 + 5, 0))

    def test_kinds(self):
        for bound in (0, 7, GREAT):
            self.assertIs(type(tariff(bound)), tuple)
            self.assertEqual({type(pay) for pay in tariff(bound)}, {int})


class NeverBelowNothing(unittest.TestCase):
    def assert_paid(self, deeds, slack):
        pays = tariff(least_bound(deeds, slack))
        lines = ledger(deeds, slack, pays)
        self.assertEqual(len(lines), len(deeds))
        self.assertGreaterEqual(min([line[2] for line in lines], default=0), 0)
        self.assertIs(ledger_shown(lines, slack, pays), True)

    def test_a_heap_of_one_entry_at_the_most(self):
        run = (("put", "a", 1), ("take",)) * 50
        self.assertEqual(least_bound(run, 0), 0)
        self.assert_paid(run, 0)
        self.assert_paid((), 0)

    def test_the_moment_ahead_of_a_sweep_counts(self):
        self.assertEqual(least_bound((("put", "a", 1), ("change", "a", 2), ("change", "a", 3)), 0), 2)

    def test_runs_that_wear_the_heap(self):
        for many in (1, 2, 3, 5, 8, 16, 33, 64, 100, 150, 200):
            for run in wearing_runs(plain.many_names(many)):
                self.assertLessEqual(len(run), 610)
                for slack in SLACKS:
                    self.assert_paid(run, slack)

    def test_any_long_runs(self):
        dice = plain.Dice(31)
        for slack in SLACKS:
            for many in (1, 2, 5, 30, 200):
                self.assert_paid(any_run(dice, 610, plain.many_names(many), 1 if many == 2 else GREAT, slack), slack)

    def test_all_short_runs(self):
        deeds = (("put", "a", 0), ("put", "b", -1), ("change", "a", -2), ("change", "b", 1),
                 ("drop", "a"), ("drop", "b"), ("least",), ("take",))
        paid = 0
        for run in itertools.product(deeds, repeat=5):
            if isinstance(plain.ledger(run, 0, TARIFFS[0]), tuple):
                self.assert_paid(run, 0)
                paid += 1
        self.assertGreater(paid, 500)


class Ledger(unittest.TestCase):
    def assert_right(self, deeds, slack, pays):
        lines = ledger(deeds, slack, pays)
        self.assertEqual(lines, plain.ledger(deeds, slack, pays))
        self.assertEqual(ledger(list(deeds), slack, pays), lines)
        self.assertEqual(ledger(tuple(deeds), slack, pays), lines)

    def test_of_no_deeds(self):
        for none in ((), []):
            self.assertEqual(ledger(none, 0, (1, 2, 3, 4, 5)), ())

    def test_of_one_deed(self):
        self.assertEqual(ledger([("put", "a", 7)], 0, (1, 2, 3, 4, 5)), ((("put", "a", 7), 0, 1),))

    def test_each_deed_pays_its_own(self):
        run = (("put", "a", 2), ("put", "b", 1), ("change", "a", 0), ("least",), ("take",), ("drop", "b"))
        told = ledger(run, 9, (10, 200, 3000, 40000, 500000))
        works = (0, 1, 1, 0, 1, 0)
        purses = (10, 19, 3018, 503018, 543017, 543217)
        self.assertEqual(told, tuple(zip(run, works, purses)))

    def test_the_work_of_least_and_of_a_sweep(self):
        run = (("put", "a", 1), ("put", "b", 2), ("put", "c", 3), ("drop", "a"), ("least",), ("drop", "b"), ("least",))
        self.assertEqual([line[1] for line in ledger(run, 9, TARIFFS[0])], [0, 1, 1, 0, 1, 0, 0])
        run = [("put", name, k) for k, name in enumerate("abcde")] + [("drop", name) for name in "abc"]
        self.assertEqual([line[1] for line in ledger(run, 0, TARIFFS[0])], [0, 1, 1, 1, 1, 0, 0, 1])

    def test_purses_below_nothing_are_told(self):
        run = (("put", "a", 1), ("put", "b", 0), ("put", "c", -1), ("take",))
        self.assertEqual([line[2] for line in ledger(run, 0, (0, 0, 0, 0, 0))], [0, -1, -2, -3])
        self.assertEqual([line[2] for line in ledger(run, 0, (0, 0, 0, GREAT, 0))], [0, -1, -2, GREAT - 3])

    def test_any_tariff_and_slack(self):
        for pays in TARIFFS:
            for slack in SLACKS:
                self.assert_right(RUN, slack, pays)

    def test_long_runs(self):
        dice = plain.Dice(32)
        for slack in SLACKS:
            for pays in TARIFFS:
                for many in (3, 120):
                    self.assert_right(any_run(dice, 610, plain.many_names(many), 9, slack), slack, pays)

    def test_all_short_runs(self):
        deeds = (("put", "a", 0), ("put", "b", 0), ("change", "a", -1), ("drop", "a"), ("drop", "b"), ("least",),
                 ("take",))
        for run in itertools.product(deeds, repeat=4):
            right = plain.ledger(run, 0, (1, 2, 3, 4, 5))
            if isinstance(right, tuple):
                self.assertEqual(ledger(run, 0, (1, 2, 3, 4, 5)), right)
            else:
                self.assert_refused(Clash if right == ["Clash"] else NoThing, run, 0)

    def assert_refused(self, refusal, deeds, slack):
        kept = list(deeds)
        for handed_in in (list(deeds), tuple(deeds)):
            with self.assertRaises(refusal) as caught:
                ledger(handed_in, slack, (1, 2, 3, 4, 5))
            self.assertIs(type(caught.exception), refusal)
            self.assertEqual(list(handed_in), kept)

    def test_a_refused_deed_at_the_begin(self):
        for deed in (("drop", "a"), ("change", "a", 1), ("take",), ("least",)):
            self.assert_refused(NoThing, (deed,), 0)
            self.assert_refused(NoThing, (deed,) + RUN, 0)

    def test_a_refused_deed_in_the_middle_and_at_the_end(self):
        wrong = {("put", "b", 4): Clash, ("drop", "z"): NoThing, ("change", "z", 1): NoThing}
        for deed, refusal in wrong.items():
            self.assert_refused(refusal, RUN[:5] + (deed,) + RUN[5:], 3)
            self.assert_refused(refusal, RUN[:5] + (deed,), 3)
        self.assert_refused(NoThing, (("put", "a", 1), ("take",), ("take",), ("put", "a", 1)), 3)
        self.assert_refused(NoThing, (("put", "a", 1), ("drop", "a"), ("least",)), 3)

    def test_nothing_handed_in_is_changed(self):
        deeds = list(RUN)
        lines = ledger(deeds, 3, TARIFFS[1])
        self.assertEqual(deeds, list(RUN))
        deeds.clear()
        self.assertEqual(lines, plain.ledger(RUN, 3, TARIFFS[1]))
        self.assertEqual(ledger(RUN, 3, TARIFFS[1]), lines)

    def test_kinds(self):
        lines = ledger(list(RUN), 3, TARIFFS[1])
        self.assertIs(type(lines), tuple)
        self.assertEqual({tuple(type(part) for part in line) for line in lines}, {(tuple, int, int)})
        self.assertEqual({type(line) for line in lines}, {tuple})

    def test_by_the_names_of_the_arguments(self):
        lines = ledger(deeds=RUN, slack=3, tariff=TARIFFS[1])
        self.assertEqual(lines, ledger(RUN, 3, TARIFFS[1]))
        self.assertIs(ledger_shown(ledger=lines, slack=3, tariff=TARIFFS[1]), True)
        self.assertEqual(tariff(bound=1), tariff(1))


def with_line(lines, place, line):
    return lines[:place] + (line,) + lines[place + 1:]


def one_more_or_less(lines):
    """All ledgers in which a work or a purse is another one."""
    for place, (deed, work, purse) in enumerate(lines):
        for step in (1, -1, 10 ** 40, -10 ** 40):
            yield with_line(lines, place, (deed, work + step, purse))
            yield with_line(lines, place, (deed, work, purse + step))
            yield with_line(lines, place, (deed, work + step, purse - step))


def with_works(lines, works, pays):
    """The same deeds with other works, and purses that fit these."""
    purse = 0
    told = ()
    for (deed, _, _), work in zip(lines, works):
        purse += pays[plain.KINDS.index(deed[0])] - work
        told += ((deed, work, purse),)
    return told


def with_deeds(lines, deeds):
    """Other deeds in the places of those of the ledger."""
    return tuple((deed, work, purse) for deed, (_, work, purse) in zip(deeds, lines))


class LedgerShown(unittest.TestCase):
    def assert_shown(self, lines, slack, pays, shown):
        self.assertIs(ledger_shown(lines, slack, pays), shown, lines)
        self.assertIs(ledger_shown(lines, slack, pays), shown, lines)

    def assert_as_plain(self, lines, slack, pays):
        shown = plain.ledger_shown(lines, slack, pays)
        self.assert_shown(lines, slack, pays, shown)
        return shown

    def test_the_empty_ledger(self):
        for slack in SLACKS:
            for pays in TARIFFS:
                self.assert_shown((), slack, pays, True)

    def test_what_ledger_tells(self):
        for slack in SLACKS:
            self.assert_shown(ledger(RUN, slack, tariff(4)), slack, tariff(4), True)
            self.assert_shown(ledger(RUN, slack, TARIFFS[3]), slack, TARIFFS[3], True)
            self.assert_shown(ledger(RUN, slack, TARIFFS[0]), slack, TARIFFS[0], False)

    def test_a_purse_below_nothing(self):
        run = (("put", "a", 1), ("put", "b", 0), ("least",))
        for pays, shown in (((0, 0, 0, 0, 0), False), ((0, 0, 0, 0, 9), False), ((1, 0, 0, 0, 0), True)):
            self.assert_shown(ledger(run, 0, pays), 0, pays, shown)
            self.assert_shown(ledger(run[:2], 0, pays), 0, pays, shown)
        # A purse of just nothing is not below it.
        self.assertEqual([line[2] for line in ledger(run[:1], 0, (0, 0, 0, 0, 0))], [0])
        self.assert_shown(ledger(run[:1], 0, (0, 0, 0, 0, 0)), 0, (0, 0, 0, 0, 0), True)

    def test_any_long_ledgers(self):
        dice = plain.Dice(33)
        for slack in SLACKS:
            for pays in TARIFFS:
                run = any_run(dice, 610, plain.many_names(40), 9, slack)
                lines = plain.ledger(run, slack, pays)
                self.assert_shown(lines, slack, pays, min(line[2] for line in lines) >= 0)
                place = dice.below(610)
                deed, work, purse = lines[place]
                self.assert_shown(with_line(lines, place, (deed, work + 1, purse)), slack, pays, False)
                self.assert_shown(with_line(lines, place, (deed, work, purse + 1)), slack, pays, False)

    def test_a_work_or_purse_more_or_less(self):
        for pays in (tariff(4), (GREAT, GREAT, GREAT, GREAT, GREAT)):
            for lines in one_more_or_less(ledger(RUN, 3, pays)):
                self.assert_shown(lines, 3, pays, False)

    def test_works_that_are_not_so_with_purses_that_fit_them(self):
        pays = tariff(4)
        lines = ledger(RUN, 3, pays)
        works = [line[1] for line in lines]
        self.assert_shown(with_works(lines, works, pays), 3, pays, True)
        for place, work in enumerate(works):
            for other in (work + 1, work - 1):
                forged = with_works(lines, works[:place] + [other] + works[place + 1:], pays)
                self.assertGreaterEqual(min(line[2] for line in forged), 0)
                self.assert_shown(forged, 3, pays, False)

    def test_two_works_exchanged(self):
        pays = tariff(4)
        lines = ledger(RUN, 3, pays)
        pairs = 0
        for one, other in itertools.combinations(range(len(lines)), 2):
            works = [line[1] for line in lines]
            if works[one] == works[other]:
                continue
            works[one], works[other] = works[other], works[one]
            pairs += 1
            self.assert_shown(with_works(lines, works, pays), 3, pays, False)
            forged = tuple((deed, work, purse) for (deed, _, purse), work in zip(lines, works))
            self.assert_shown(forged, 3, pays, False)
        self.assertGreater(pairs, 10)

    def test_a_deed_left_out_twice_or_exchanged_with_the_next(self):
        pays = (14, 15, 29, 16, 1)
        lines = ledger(RUN, 3, pays)
        for place in range(len(lines) - 1):
            self.assert_shown(lines[:place] + lines[place + 1:], 3, pays, False)
            self.assert_shown(lines[:place + 1] + lines[place:], 3, pays, False)
            exchanged = lines[:place] + (lines[place + 1], lines[place]) + lines[place + 2:]
            self.assert_shown(exchanged, 3, pays, False)
            self.assert_as_plain(with_deeds(lines, [line[0] for line in exchanged]), 3, pays)
        # What is left out behind the last of a right ledger leaves a right one.
        self.assert_shown(lines[:-1], 3, pays, True)
        self.assert_shown(lines + lines[-1:], 3, pays, False)

    def test_deeds_exchanged_under_the_works_and_purses_of_the_others(self):
        pays = (14, 15, 29, 16, 1)
        lines = ledger(RUN, 3, pays)
        shown = []
        for place in range(len(RUN) - 1):
            deeds = RUN[:place] + (RUN[place + 1], RUN[place]) + RUN[place + 2:]
            shown.append(self.assert_as_plain(with_deeds(lines, deeds), 3, pays))
        self.assertGreater(shown.count(False), 8)

    def test_another_deed_in_the_place_of_one(self):
        pays = (14, 15, 29, 16, 1)
        lines = ledger(RUN, 3, pays)
        others = (("put", "e", 3), ("put", "a", -5), ("drop", "b"), ("drop", "d"), ("change", "c", 9),
                  ("change", "b", -9), ("take",), ("least",))
        shown = []
        for place, line in enumerate(lines):
            for other in others:
                forged = with_line(lines, place, (other,) + line[1:])
                truth = self.assert_as_plain(forged, 3, pays)
                if other[0] != line[0][0]:
                    self.assertIs(truth, False)
                    shown.append(truth)
        self.assertGreater(len(shown), 60)

    def test_a_worth_on_which_the_work_hangs(self):
        pays = tariff(4)
        lines = ledger((("put", "a", 1), ("put", "b", 2), ("put", "c", 3), ("put", "d", 4)), 3, pays)
        forged = with_line(lines, 3, (("put", "d", 0),) + lines[3][1:])
        self.assert_shown(forged, 3, pays, False)

    def test_a_refused_deed(self):
        pays = (GREAT, GREAT, GREAT, GREAT, GREAT)
        lines = ledger(RUN, 3, pays)
        for deed in (("put", "b", 4), ("drop", "z"), ("change", "z", 1)):
            for place in range(1, 5):
                line = (deed, 0, lines[place - 1][2] + GREAT)
                self.assert_shown(lines[:place] + (line,) + lines[place:], 3, pays, False)
                self.assert_shown(lines[:place] + (line,), 3, pays, False)
        for deed in (("drop", "b"), ("change", "b", 1), ("take",), ("least",)):
            self.assert_shown(((deed, 0, GREAT),), 3, pays, False)
            self.assert_shown(((deed, 0, GREAT),) + lines, 3, pays, False)
            self.assert_shown(((deed, 0, 0),), 3, TARIFFS[0], False)

    def test_another_slack(self):
        run = [("put", name, k) for k, name in enumerate("abcdefgh")] + [("drop", name) for name in "hgfed"]
        run += [("take",), ("take",), ("take",)]
        pays = tariff(4)
        lines = {slack: ledger(run, slack, pays) for slack in (0, 4, 5, 20, GREAT)}
        for slack, other in itertools.product(lines, repeat=2):
            self.assert_shown(lines[slack], other, pays, lines[slack] == lines[other])
        self.assertNotEqual(lines[0], lines[20])
        self.assertEqual(lines[0], lines[4])
        self.assertEqual(lines[20], lines[GREAT])

    def test_another_tariff(self):
        pays = tariff(4)
        lines = ledger(RUN, 3, pays)
        for place in range(5):
            for step in (1, -1, GREAT):
                other = pays[:place] + (pays[place] + step,) + pays[place + 1:]
                self.assert_shown(lines, 3, other, False)
        # The pay of a deed that was not done is free.
        self.assert_shown(lines[:3], 3, pays[:1] + (0, 1, GREAT, 7), True)

    def test_nothing_handed_in_is_changed(self):
        lines = ledger(RUN, 3, tariff(4))
        kept = tuple(tuple(line) for line in lines)
        ledger_shown(lines, 3, tariff(4))
        self.assertEqual(lines, kept)

    def test_all_short_ledgers(self):
        deeds = (("put", "a", 0), ("put", "b", -1), ("change", "a", -2), ("drop", "a"), ("take",), ("least",))
        counts = {True: 0, False: 0}
        for run in itertools.product(deeds, repeat=3):
            for works in itertools.product((0, 1, 2), repeat=3):
                lines = with_works([(deed, 0, 0) for deed in run], works, (1, 0, 1, 1, 0))
                counts[self.assert_as_plain(lines, 0, (1, 0, 1, 1, 0))] += 1
        self.assertGreater(min(counts.values()), 20)


if __name__ == "__main__":
    unittest.main()
