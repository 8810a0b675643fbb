import itertools
import unittest

from lategone.errors import Clash, NoAsk, NoThing
from lategone.whole import Desk
from tests import plain
from tests.plain import asked

GREAT = plain.GREAT
WORDS = ("heap", "put", "drop", "change", "take", "least", "first", "join", "room", "works")
NO_NAMES = ("", "A", "aB", "a1", "7", "-1", "abcdefghi", "a_b", "a-b", "a.", "~", "a\n", "\na", "a\t", "\u00e4", "*",
            "z" * 3900)
NO_NUMBERS = ("", "-", "-0", "00", "01", "-01", "+1", "--1", "1-", "1" * 31, "-" + "9" * 31, "0" * 30, "1_0", "1.0",
              "1e3", "0x1", "a", "one", "1\n", "\n1", "1\t", "\u0661", "\u00b2", "9" * 3900)


def desk_behind(*lines):
    desk = Desk()
    for line in lines:
        desk.ask(line)
    return desk


def two_heaps():
    return desk_behind("heap a 2", "put a p 5", "put a q 3", "put a r 4", "drop a q",
                       "heap b 0", "put b s 1", "put b t 2")


def seen(desk, names):
    """Slack, row, things, many and work of each heap, and what the desk tells of it without a change."""
    told = [asked(desk, f"{word} {name}") for word in ("room", "works") for name in names]
    told += [asked(desk, f"first {name} 300") for name in names]
    return told, {name: (heap.slack, plain.seen(heap)) for name, heap in desk.heaps.items()}


class Watched(unittest.TestCase):
    def assert_run(self, desk, *pairs):
        for line, told in pairs:
            self.assertEqual(asked(desk, line), told, line)

    def assert_refused(self, desk, line, refusal, names="ab"):
        before = seen(desk, names)
        for _ in range(2):
            with self.assertRaises(refusal) as caught:
                desk.ask(line)
            self.assertIs(type(caught.exception), refusal, line)
        self.assertEqual(seen(desk, names), before, line)


class Lines(Watched):
    def test_each_line(self):
        self.assert_run(
            Desk(),
            ("heap a 1", []), ("room a", ["0 0"]), ("works a", ["0"]), ("first a 3", []),
            ("put a pear 5", []), ("put a plum -3", []), ("put a fig 5", []),
            ("room a", ["3 3"]), ("works a", ["2"]),
            ("least a", ["-3 plum"]), ("first a 2", ["-3 plum", "5 fig"]),
            ("change a plum 9", []), ("room a", ["3 4"]), ("works a", ["3"]),
            ("least a", ["5 fig"]), ("room a", ["3 3"]), ("works a", ["5"]),
            ("drop a fig", []), ("room a", ["2 3"]),
            ("take a", ["5 pear"]), ("room a", ["1 1"]),
            ("take a", ["9 plum"]), ("room a", ["0 0"]), ("take a", "NoThing"),
        )

    def test_what_is_told_is_a_list_of_texts(self):
        desk = two_heaps()
        for line in ("heap c 0", "put a x 1", "drop a x", "change a p 7", "join b c"):
            self.assertEqual(desk.ask(line), [])
        for line in ("take a", "least a", "first b 2", "room a", "works a"):
            told = desk.ask(line)
            self.assertIs(type(told), list)
            self.assertEqual({type(row) for row in told}, {str})

    def test_what_is_told_is_the_askers_own(self):
        desk = two_heaps()
        for line in ("heap c 0", "least a", "first a 9", "room a", "works a", "first b 0", "put c x 1", "change c x 2"):
            told = desk.ask(line)
            kept = list(told)
            told.append("more")
            if not line.startswith("put"):
                self.assertEqual(desk.ask(line), kept)
            self.assertEqual(told, kept + ["more"])

    def test_desks_are_apart(self):
        one, other = Desk(), Desk()
        one.ask("heap a 0")
        one.ask("put a x 1")
        self.assert_refused(other, "least a", NoAsk)
        other.ask("heap a 0")
        self.assertEqual(other.ask("room a"), ["0 0"])
        self.assertEqual(one.ask("room a"), ["1 1"])

    def test_heaps_are_apart(self):
        self.assert_run(
            Desk(),
            ("heap a 0", []), ("heap b 0", []), ("put a x 1", []), ("put b x 2", []), ("drop a x", []),
            ("least b", ["2 x"]), ("room a", ["0 0"]), ("room b", ["1 1"]),
        )

    def test_a_heap_anew(self):
        self.assert_run(
            two_heaps(),
            ("works a", ["2"]), ("heap a 0", []), ("room a", ["0 0"]), ("works a", ["0"]), ("first a 9", []),
            ("take a", "NoThing"), ("put a p 1", []), ("room b", ["2 2"]), ("room a", ["1 1"]),
            # The slack is the new one: with the old one, 2, the gone entry would stay.
            ("drop a p", []), ("room a", ["0 0"]),
        )

    def test_a_heap_anew_behind_a_join_has_no_works(self):
        self.assert_run(
            two_heaps(),
            ("join a b", []), ("heap a 0", []), ("works a", ["0"]), ("put a p 1", []), ("works a", ["0"]),
        )

    def test_the_slack(self):
        for slack in (0, 1, 2, 5, GREAT):
            desk = desk_behind(f"heap a {slack}", *[f"put a {name} 1" for name in "pqrstuv"],
                               *[f"drop a {name}" for name in "pqrstuv"])
            model = plain.PlainLate(slack)
            for kind, name in itertools.product(("put", "drop"), "pqrstuv"):
                model.do((kind, name, 1)[:3 if kind == "put" else 2])
            self.assertEqual(desk.ask("room a"), [f"0 {len(model.entries)}"])
            self.assertEqual(desk.ask("works a"), [str(model.total)])

    def test_names_that_are_words_of_the_desk(self):
        for name, thing in itertools.product(WORDS, repeat=2):
            self.assert_run(
                Desk(),
                (f"heap {name} 0", []), (f"put {name} {thing} 1", []), (f"least {name}", [f"1 {thing}"]),
                (f"change {name} {thing} 2", []), (f"first {name} 1", [f"2 {thing}"]), (f"room {name}", ["1 2"]),
                (f"take {name}", [f"2 {thing}"]), (f"drop {name} {thing}", "NoThing"), (f"works {name}", ["1"]),
            )
        desk = desk_behind(*[f"heap {name} 0" for name in WORDS], *[f"put {name} {name} 1" for name in WORDS])
        for name in WORDS[1:]:
            self.assertEqual(desk.ask(f"join heap {name}"), [])
        self.assertEqual(desk.ask("first heap 99"), [f"1 {name}" for name in sorted(WORDS)])

    def test_names_of_one_to_eight_letters(self):
        for name in ("a", "z", "az", "abcdefgh", "zzzzzzzz"):
            self.assert_run(
                Desk(),
                (f"heap {name} 0", []), (f"put {name} {name} 1", []), (f"take {name}", [f"1 {name}"]),
            )

    def test_worths_of_all_sizes(self):
        for worth in (0, 1, -1, 10, -10, GREAT, -GREAT, 10 ** 29, -10 ** 29):
            self.assert_run(
                desk_behind("heap a 0", "put a x 7"),
                (f"put a y {worth}", []), (f"change a x {worth}", []), ("first a 2", [f"{worth} x", f"{worth} y"]),
                ("take a", [f"{worth} x"]), ("take a", [f"{worth} y"]),
            )

    def test_first(self):
        desk = two_heaps()
        before = seen(desk, "ab")
        self.assert_run(
            desk,
            ("first a 0", []), ("first a 1", ["4 r"]), ("first a 2", ["4 r", "5 p"]), ("first a 3", ["4 r", "5 p"]),
            (f"first a {GREAT}", ["4 r", "5 p"]), ("first b 2", ["1 s", "2 t"]),
        )
        self.assertEqual(seen(desk, "ab"), before)

    def test_by_the_name_of_the_argument(self):
        self.assertEqual(Desk().ask(line="heap a 0"), [])


class Join(Watched):
    def test_the_second_is_the_lesser(self):
        self.assert_run(
            desk_behind("heap a 0", "put a p 1", "put a q 2", "heap b 9", "put b r 0"),
            ("join a b", []), ("first a 9", ["0 r", "1 p", "2 q"]), ("room a", ["3 3"]), ("room b", ["0 0"]),
        )

    def test_the_first_is_the_lesser(self):
        self.assert_run(
            desk_behind("heap a 0", "put a p 1", "put a q 2", "heap b 9", "put b r 0"),
            ("join b a", []), ("first b 9", ["0 r", "1 p", "2 q"]), ("room b", ["3 3"]), ("room a", ["0 0"]),
        )

    def assert_slack(self, desk, name, slack):
        """By lines alone: so many gone entries, and no more, may lie in the heap where nothing is there."""
        while desk.ask(f"room {name}")[0].split()[0] != "0":
            desk.ask(f"take {name}")
        for k in range(slack + 1):
            self.assertEqual(desk.ask(f"room {name}"), [f"0 {k}"])
            desk.ask(f"put {name} gone 0")
            desk.ask(f"drop {name} gone")
        self.assertEqual(desk.ask(f"room {name}"), ["0 0"])

    def test_the_slacks(self):
        for greater, lesser in itertools.product((0, 1, 3, 6), repeat=2):
            lines = (f"heap a {greater}", "put a p 1", "put a q 2", f"heap b {lesser}", "put b r 0")
            desk = desk_behind(*lines, "join a b")
            self.assert_slack(desk, "a", greater)
            self.assert_slack(desk, "b", lesser)
            desk = desk_behind(*lines, "join b a")
            self.assert_slack(desk, "b", greater)
            self.assert_slack(desk, "a", lesser)
            desk = desk_behind(*lines, "take a", "join a b")
            self.assert_slack(desk, "a", greater)
            self.assert_slack(desk, "b", lesser)

    def test_of_like_many_things_the_first_comes(self):
        desk = desk_behind("heap a 1", "put a p 1", "heap b 4", "put b q 0")
        desk.ask("join a b")
        self.assert_slack(desk, "a", 1)
        self.assert_slack(desk, "b", 4)

    def test_with_empty_heaps(self):
        self.assert_run(
            desk_behind("heap a 1", "heap b 4", "heap c 2", "put c x 1"),
            ("join a b", []), ("room a", ["0 0"]), ("room b", ["0 0"]), ("works a", ["0"]),
            ("join a c", []), ("first a 9", ["1 x"]), ("room c", ["0 0"]), ("join a c", []), ("first a 9", ["1 x"]),
        )

    def test_the_works_of_both(self):
        lines = ("heap a 9", "put a p 5", "put a q 3", "put a r 1", "drop a r", "least a",
                 "heap b 0", "put b s 1", "put b t 0", "put b u 2", "put b v 2")
        first, second = plain.PlainLate(9), plain.PlainLate(0)
        for deed in (("put", "p", 5), ("put", "q", 3), ("put", "r", 1), ("drop", "r"), ("least",)):
            first.do(deed)
        for deed in (("put", "s", 1), ("put", "t", 0), ("put", "u", 2), ("put", "v", 2)):
            second.do(deed)
        before = (first.total, second.total)
        self.assertIs(plain.put_together(first, second), second)
        both = str(first.total + second.total)
        self.assertGreater(int(both), sum(before))
        for name, other in ("ab", "ba"):
            self.assert_run(
                desk_behind(*lines),
                ("works a", [str(before[0])]), ("works b", [str(before[1])]), (f"join {name} {other}", []),
                (f"works {name}", [both]), (f"works {other}", ["0"]),
            )

    def test_the_lesser_ones_sweeps_are_among_the_works(self):
        works = set()
        for slack in range(6):
            desk, model = Desk(), plain.PlainDesk()
            lines = [f"heap a {slack}"] + [f"put a {name} {k}" for k, name in enumerate("pqrstuvw")]
            lines += ["heap b 0"] + [f"put b {name}x {k}" for k, name in enumerate("abcdefghij")] + ["join a b"]
            for line in lines + ["works a", "room a"]:
                self.assertEqual(asked(desk, line), model.ask(line))
            works.add(desk.ask("works a")[0])
        # The lesser heap is swept sooner or later by its slack, and so with more work or less.
        self.assertGreater(len(works), 1)

    def test_works_over_many_joins(self):
        desk, model = Desk(), plain.PlainDesk()
        for line in ("heap a 0", "put a p 2", "put a q 1", "heap b 0", "put b r 4", "put b s 3", "put b t 5",
                     "join a b", "put b x 3", "put b y 2", "works a", "works b", "join b a", "works a", "works b",
                     "heap c 1", "join c b", "works c", "works b", "take c", "works c", "join a c", "works a",
                     "works c", "least a", "works a", "put b z 1", "join b a", "works b", "works a", "room b"):
            self.assertEqual(asked(desk, line), model.ask(line), line)

    def test_deeds_on_both_behind_it(self):
        self.assert_run(
            desk_behind("heap a 0", "put a p 1", "put a q 2", "heap b 9", "put b r 0"),
            ("join b a", []), ("put a p 7", []), ("least a", ["7 p"]), ("put b p 7", "Clash"), ("take b", ["0 r"]),
            ("drop b q", []), ("put a q 1", []), ("first a 9", ["1 q", "7 p"]), ("first b 9", ["1 p"]),
            ("join a b", "Clash"), ("change b p 3", []), ("drop a p", []), ("join a b", []),
            ("first a 9", ["1 q", "3 p"]), ("room b", ["0 0"]), ("take b", "NoThing"),
        )

    def test_gone_entries_of_the_lesser_one_are_not_joined(self):
        self.assert_run(
            desk_behind("heap a 9", "put a p 1", "put a q 2", "drop a p", "heap b 9", "put b r 0", "put b s 1",
                        "put b p 4"),
            ("room a", ["1 2"]), ("join a b", []), ("room a", ["4 4"]), ("room b", ["0 0"]),
        )

    def test_a_name_in_both(self):
        for line in ("join a b", "join b a"):
            self.assert_refused(desk_behind("heap a 0", "put a p 1", "put a q 2", "heap b 1", "put b q 2"), line, Clash)
            desk = two_heaps()
            desk.ask("put b r 4")
            self.assert_refused(desk, line, Clash)

    def test_one_heap_twice(self):
        desk = two_heaps()
        for name in ("a", "b", "c"):
            self.assert_refused(desk, f"join {name} {name}", NoAsk)
        desk.ask("heap c 0")
        self.assert_refused(desk, "join c c", NoAsk, "abc")


class Refused(Watched):
    GOOD = ("heap a 7", "put a x 1", "drop a p", "change a p 1", "take a", "least a", "first a 1", "join a b", "room a",
            "works a")

    def refuse_all(self, lines, refusal):
        desk = two_heaps()
        for line in lines:
            self.assert_refused(desk, line, refusal)

    def test_other_lines(self):
        self.refuse_all(("", " ", "  ", "a", "a b", "HEAP c 0", "Take a", "heaps c 0", "sweep a", "many a", "row a",
                         "work a", "things a", "rooms a", "firsts a 1", "heap", "word a", "-", "0", "take,a", "take\ta",
                         "# a", "understood a", "~", " " * 4000, "a" * 4000, "take " * 800), NoAsk)

    def test_words_lacking_and_too_many(self):
        lines = []
        for line in self.GOOD:
            words = line.split()
            lines += [" ".join(words[:many]) for many in range(1, len(words))]
            lines += [line + " a", line + " 1", line + " a 1", line + " -1"]
        self.refuse_all(lines, NoAsk)

    def test_blanks_and_line_ends(self):
        lines = []
        for line in self.GOOD:
            lines += [" " + line, line + " ", line + "\n", "\n" + line, line + "\r", line + "\t", line + "\r\n"]
            lines += [line[:k] + " " + line[k:] for k, sign in enumerate(line) if sign == " "]
            lines += [line.replace(" ", "\t"), line.replace(" ", "\n"), line.replace(" ", ""), line + " " * 3900]
            lines += [line + "\n" + line, line + ";" + line]
        self.refuse_all(lines, NoAsk)

    def test_names_that_are_none(self):
        lines = []
        for name in NO_NAMES:
            lines += [f"heap {name} 0", f"put {name} x 1", f"put a {name} 1", f"drop {name} p", f"drop a {name}",
                      f"change {name} p 1", f"change a {name} 1", f"take {name}", f"least {name}", f"first {name} 1",
                      f"join a {name}", f"join {name} a", f"room {name}", f"works {name}"]
        self.refuse_all(lines, NoAsk)

    def test_heaps_that_are_not_there(self):
        self.refuse_all(("put c x 1", "drop c p", "change c p 1", "take c", "least c", "first c 1", "first c 0",
                         "join a c", "join c a", "join c d", "room c", "works c", "take p", "room ab", "take heap"),
                        NoAsk)
        for line in self.GOOD[1:]:
            self.assert_refused(Desk(), line, NoAsk)

    def test_numbers_that_are_none(self):
        lines = []
        for number in NO_NUMBERS:
            lines += [f"heap c {number}", f"heap a {number}", f"put a x {number}", f"change a p {number}",
                      f"first a {number}"]
        self.refuse_all(lines, NoAsk)

    def test_slack_and_k_below_nought(self):
        for number in (-1, -2, -10, -GREAT):
            self.refuse_all((f"heap c {number}", f"heap a {number}", f"first a {number}"), NoAsk)

    def test_a_refused_heap_line_puts_nothing_in(self):
        for number in NO_NUMBERS + ("-1",):
            desk = Desk()
            self.assert_refused(desk, f"heap c {number}", NoAsk, "c")
            self.assert_refused(desk, "room c", NoAsk, "c")
            self.assert_refused(desk, "put c x 1", NoAsk, "c")

    def test_as_the_heap_refuses(self):
        self.refuse_all(("put a p 1", "put a p 5", "put b s 0", "put a r -1"), Clash)
        self.refuse_all(("drop a q", "drop a s", "drop b p", "drop a x", "change a q 1", "change a x 1", "change b p 5",
                         "drop a heap"), NoThing)
        desk = desk_behind("heap a 9", "put a p 1", "drop a p", "heap b 0")
        for line in ("take a", "least a", "take b", "least b", "drop a p", "change a p 1", "drop b p"):
            self.assert_refused(desk, line, NoThing)
        self.assertEqual(desk.ask("room a"), ["0 1"])

    def test_what_asks_nothing_is_refused_ahead_of_the_heap(self):
        self.refuse_all(("put a p 01", "put a p -0", "drop a Q", "change a q +1", "change a x 1 ", "put a p",
                         "put c p 1", "drop a q\n", "take  a", "join a a"), NoAsk)
        desk = desk_behind("heap a 0")
        for line in ("take a ", "least a a", "take b", "change a x x"):
            self.assert_refused(desk, line, NoAsk)

    def test_refused_lines_have_no_stamp_and_no_work(self):
        refused = ("drop a none", "change a none 1", "take c", "heap a -1", "put a y 01", "join a a")
        desk, other = two_heaps(), two_heaps()
        for line in ("put a x 4", "change a p 0", "take a", "put b y 0", "least a", "change b s 2", "join a b",
                     "take a", "heap b 1", "put b q 3", "join b a", "put b z 1", "take b"):
            for each in refused:
                self.assertIsInstance(asked(other, each), str, each)
            self.assertEqual(asked(other, line), asked(desk, line))
            if line.startswith("put"):
                self.assertEqual(asked(other, line), "Clash")
            self.assertEqual(seen(other, "ab"), seen(desk, "ab"))


class LongRuns(Watched):
    """[3]: whatever lines were asked, the desk answers as the plain reckoning does."""

    def any_line(self, dice, names, things, spread):
        word = dice.one_of(("put",) * 8 + ("drop", "drop", "change", "change", "change") + WORDS)
        if word == "heap":
            # Seldom, for what was done on the heap before is gone with it.
            word = dice.one_of(("heap", "put", "put", "put", "change", "least", "least", "take"))
        name, thing = dice.one_of(names), dice.one_of(things)
        if word == "heap":
            return f"heap {name} {dice.one_of((0, 1, 3, 40, GREAT))}"
        if word == "join":
            return f"join {name} {dice.one_of(names)}"
        if word == "first":
            return f"first {name} {dice.below(9)}"
        if word in ("put", "change"):
            return f"{word} {name} {thing} {plain.any_worth(dice, spread)}"
        return f"{word} {name} {thing}" if word == "drop" else f"{word} {name}"

    def spoilt(self, dice, line):
        place = dice.below(len(line) + 1)
        sign = dice.one_of(" -0019az+\n")
        return dice.one_of((line[:place] + sign + line[place:], line[:place] + line[place + 1:],
                            line[:place] + sign + line[place + 1:]))

    def assert_as_plain(self, desk, model, line):
        self.assertEqual(asked(desk, line), model.ask(line), line)
        self.assertEqual(set(desk.heaps), set(model.heaps))

    def assert_alike(self, desk, model, names):
        for name in names:
            for line in (f"room {name}", f"works {name}", f"first {name} 300"):
                self.assert_as_plain(desk, model, line)
            if name in model.heaps:
                self.assertEqual(desk.heaps[name].row(), model.heaps[name][0].entries)

    def test_on_few_things(self):
        dice = plain.Dice(81)
        names, things = ("a", "b", "c"), plain.many_names(6)
        refusals = dict.fromkeys(("NoAsk", "Clash", "NoThing"), 0)
        for spread in (1, 3, GREAT):
            for _ in range(6):
                desk, model = Desk(), plain.PlainDesk()
                for _ in range(300):
                    line = self.any_line(dice, names, things, spread)
                    if dice.below(8) == 0:
                        line = self.spoilt(dice, line)
                    told = model.ask(line)
                    self.assertEqual(asked(desk, line), told, line)
                    if isinstance(told, str):
                        refusals[told] += 1
                    self.assert_alike(desk, model, names)
        self.assertGreater(min(refusals.values()), 100)

    def test_on_many_things(self):
        dice = plain.Dice(82)
        names, things = ("heap", "first", "zzzzzzzz", "q"), plain.many_names(200)
        for spread in (2, 50, GREAT):
            desk, model = Desk(), plain.PlainDesk()
            for name in names:
                self.assert_as_plain(desk, model, f"heap {name} {dice.below(30)}")
            for step in range(800):
                self.assert_as_plain(desk, model, self.any_line(dice, names, things, spread))
                if step % 20 == 0:
                    self.assert_alike(desk, model, names)
            self.assert_alike(desk, model, names)

    def test_joins_of_great_heaps(self):
        dice = plain.Dice(83)
        things = plain.many_names(200)
        for cut, slack in itertools.product((20, 100, 170), (0, 5, 1000)):
            desk, model = Desk(), plain.PlainDesk()
            lines = [f"heap a {slack}", "heap b 3"]
            lines += [f"put a {thing} {plain.any_worth(dice, 50)}" for thing in things[:cut]]
            lines += [f"put b {thing} {plain.any_worth(dice, 50)}" for thing in things[cut:]]
            lines += [f"change a {thing} {plain.any_worth(dice, 50)}" for thing in things[:cut:3]]
            lines += ["least a", "join a b", "least a", "take a", f"put b {things[0]} 1", f"put b {things[1]} 2"]
            lines += ["join b a"] + [f"drop {name} {thing}" for thing in things for name in "ab"]
            for line in lines:
                self.assert_as_plain(desk, model, line)
            self.assert_alike(desk, model, "ab")


if __name__ == "__main__":
    unittest.main()
