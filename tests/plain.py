"""A plain reckoning of DOC.md's words, without a line of the package, and deeds to try it on."""

import re


def exchanged(row, one, other):
    cells = list(row)
    cells[one], cells[other] = cells[other], cells[one]
    return tuple(cells)


def lifted(row, k):
    if k == 0:
        return row, 0
    above = (k - 1) // 2
    if row[k] < row[above]:
        after, looks = lifted(exchanged(row, k, above), above)
        return after, looks + 1
    return row, 1


def let_down(row, k):
    beneath = [place for place in (2 * k + 1, 2 * k + 2) if place < len(row)]
    if not beneath:
        return row, 0
    lesser = min(beneath, key=lambda place: (row[place], place))
    if row[lesser] < row[k]:
        after, looks = let_down(exchanged(row, k, lesser), lesser)
        return after, looks + len(beneath)
    return row, len(beneath)


def first_wrong(row):
    wrong = [k for k in range(1, len(row)) if row[(k - 1) // 2] > row[k]]
    return min(wrong, default=None)


def put_in(row, entry):
    return lifted(row + (entry,), len(row))


def taken(row):
    if len(row) == 1:
        return row[0], (), 0
    after, looks = let_down((row[-1],) + row[1:-1], 0)
    return row[0], after, looks


def made(row):
    total = 0
    for k in reversed(range(len(row) // 2)):
        row, looks = let_down(row, k)
        total += looks
    return row, total


class PlainLate:
    """[6], [7] and the work of [9]; gone entries are marked by their stamps."""

    def __init__(self, slack):
        self.slack = slack
        self.entries = ()
        self.gone = frozenset()
        self.stamps = 0
        self.total = 0
        self.most = 0

    def present(self):
        return [entry for entry in self.entries if entry[2] not in self.gone]

    def entry_of(self, name):
        return next((entry for entry in self.present() if entry[1] == name), None)

    def enter(self, name, worth):
        self.entries, looks = put_in(self.entries, (worth, name, self.stamps))
        self.stamps += 1
        self.total += looks
        # The row is never longer than here: ahead of the sweep that may follow.
        self.most = max(self.most, len(self.entries))

    def cut(self):
        entry, self.entries, looks = taken(self.entries)
        self.total += looks
        return entry

    def bare_the_top(self):
        while self.entries[0][2] in self.gone:
            self.cut()

    def sweep(self):
        present = self.present()
        gone = len(self.entries) - len(present)
        if gone > len(present) and gone > self.slack:
            self.entries, looks = made(tuple(present))
            self.total += looks

    def do(self, deed):
        """What the deed tells, or the name of its refusal in a list."""
        kind = deed[0]
        if kind == "put" and self.entry_of(deed[1]):
            return ["Clash"]
        if kind in ("drop", "change") and not self.entry_of(deed[1]):
            return ["NoThing"]
        if kind in ("take", "least") and not self.present():
            return ["NoThing"]
        return getattr(self, "do_" + kind)(*deed[1:])

    def do_put(self, name, worth):
        self.enter(name, worth)
        self.sweep()

    def do_drop(self, name):
        self.gone |= {self.entry_of(name)[2]}
        self.sweep()

    def do_change(self, name, worth):
        self.gone |= {self.entry_of(name)[2]}
        self.enter(name, worth)
        self.sweep()

    def do_least(self):
        self.bare_the_top()
        return self.entries[0][:2]

    def do_take(self):
        self.bare_the_top()
        entry = self.cut()
        self.sweep()
        return entry[:2]

    def seen(self):
        """Row, things, many and work."""
        things = tuple(sorted((name, worth) for worth, name, stamp in self.present()))
        return self.entries, things, len(things), self.total


class PlainTwins(PlainLate):
    """[8]: the gone entries lie in a second heap."""

    def __init__(self):
        super().__init__(slack=None)
        self.second = ()

    def leave(self, name):
        entry = self.entry_of(name)
        self.gone |= {entry[2]}
        self.second, _ = put_in(self.second, entry)

    def bare_the_top(self):
        while self.entries[:1] == self.second[:1]:
            self.cut()
            self.second = taken(self.second)[1]

    def sweep(self):
        pass

    def do_drop(self, name):
        self.leave(name)

    def do_change(self, name, worth):
        self.leave(name)
        self.enter(name, worth)

    def seen(self):
        """Both rows, things and many."""
        entries, things, many, _ = super().seen()
        return (entries, self.second), things, many


KINDS = ("put", "drop", "change", "take", "least")


def ledger(deeds, slack, tariff):
    """[10], or the name of the refusal in a list."""
    heap = PlainLate(slack)
    purse = 0
    lines = ()
    for deed in deeds:
        before = heap.total
        told = heap.do(deed)
        if isinstance(told, list):
            return told
        work = heap.total - before
        purse += tariff[KINDS.index(deed[0])]
        purse -= work
        lines += ((deed, work, purse),)
    return lines


def ledger_shown(lines, slack, tariff):
    right = ledger([line[0] for line in lines], slack, tariff)
    return right == lines and min((line[2] for line in lines), default=0) >= 0


def firsts(heap, k):
    """[11], of a PlainLate."""
    row = heap.entries
    present = heap.present()
    places = [0] if row else []
    told = []
    count = 0
    while len(told) < k and places:
        place = min(places, key=lambda p: row[p])
        places.remove(place)
        count += 1
        if row[place] in present:
            told.append(row[place][:2])
        places += [p for p in (2 * place + 1, 2 * place + 2) if p < len(row)]
    return tuple(told), count


def put_together(one, other):
    """[12], of two PlainLates: the deeds it names. The one that comes, or the name of the refusal in a list."""
    here, there = one.seen()[1], other.seen()[1]
    if set(dict(here)) & set(dict(there)):
        return ["Clash"]
    lesser, greater, moved = (one, other, here) if len(here) < len(there) else (other, one, there)
    for name, worth in moved:
        lesser.do(("drop", name))
        greater.do(("put", name, worth))
    return greater


def windows(row, width):
    """[13] and [14]: the worths of each window, in order."""
    return [sorted(row[k:k + width]) for k in range(len(row) - width + 1)]


def nearest(web, first):
    """[15]: rows are gone through till none leads nearer."""
    lengths = {first: 0}
    before = None
    while lengths != before:
        before = dict(lengths)
        for start, goal, length in web:
            if start in lengths:
                lengths[goal] = min(lengths[start] + length, lengths.get(goal, lengths[start] + length))
    ways = {}
    for name in set(lengths) - {first}:
        ways[name] = min(start for start, goal, length in web
                         if goal == name and start in lengths and lengths[start] + length == lengths[name])
    return lengths, ways


NAME = "([a-z]{1,8})"
COUNT = "(0|[1-9][0-9]{0,29})"
NUMBER = "(0|-?[1-9][0-9]{0,29})"
LINES = {
    "heap": f"{NAME} {COUNT}", "put": f"{NAME} {NAME} {NUMBER}", "drop": f"{NAME} {NAME}",
    "change": f"{NAME} {NAME} {NUMBER}", "take": NAME, "least": NAME, "first": f"{NAME} {COUNT}",
    "join": f"{NAME} {NAME}", "room": NAME, "works": NAME,
}


class PlainDesk:
    """[17]: under each name stand its heap and all the heaps whose work is its own."""

    def __init__(self):
        self.heaps = {}

    def ask(self, line):
        """What the line tells, or the name of its refusal as a text."""
        word, _, rest = line.partition(" ")
        match = re.fullmatch(LINES.get(word, "(?!)"), rest)
        if not match:
            return "NoAsk"
        name, *more = match.groups()
        if word == "heap":
            heap = PlainLate(int(more[0]))
            self.heaps[name] = (heap, [heap])
            return []
        if name not in self.heaps:
            return "NoAsk"
        if word == "join":
            return self.join(name, more[0])
        heap, workers = self.heaps[name]
        if word == "first":
            return [f"{worth} {thing}" for worth, thing, _ in sorted(heap.present())[:int(more[0])]]
        if word == "room":
            return [f"{len(heap.present())} {len(heap.entries)}"]
        if word == "works":
            return [str(sum(worker.total for worker in workers))]
        told = heap.do((word, *more[:1], *map(int, more[1:])))
        if isinstance(told, list):
            return told[0]
        return [f"{told[0]} {told[1]}"] if told else []

    def join(self, name, second):
        if second not in self.heaps or second == name:
            return "NoAsk"
        (one, ones), (other, others) = self.heaps[name], self.heaps[second]
        comes = put_together(one, other)
        if isinstance(comes, list):
            return comes[0]
        new = PlainLate((other if comes is one else one).slack)
        self.heaps[name] = (comes, ones + others)
        self.heaps[second] = (new, [new])
        return []


def asked(desk, line):
    """What the line tells, or the name of its refusal as a text."""
    try:
        return desk.ask(line)
    except ValueError as refusal:
        return type(refusal).__name__


def done(heap, deed):
    """What the deed tells, or the name of its refusal in a list."""
    try:
        return getattr(heap, deed[0])(*deed[1:])
    except ValueError as refusal:
        return [type(refusal).__name__]


def filled(heap, *things):
    for name, worth in things:
        heap.put(name, worth)
    return heap


def seen(heap):
    """Row, things, many and work of a Late."""
    return heap.row(), heap.things(), heap.many(), heap.work()


class Dice:
    """The same throws in each run and under each Python."""

    def __init__(self, seed):
        self.state = seed * 2 + 1

    def below(self, bound):
        throw = 0
        for _ in range(bound.bit_length() // 16 + 2):
            self.state = (self.state * 6364136223846793005 + 1442695040888963407) % 2 ** 64
            throw = throw * 2 ** 16 + self.state // 2 ** 48
        return throw % bound

    def one_of(self, things):
        return things[self.below(len(things))]


GREAT = 10 ** 30 - 1


def many_names(many):
    """Names of one to eight letters, each longer one behind a beginning of its own."""
    names = []
    for k in range(many):
        letter = "abcdefghijklmnopqrstuvwxyz"[k // 8]
        names.append((letter * 7 + "z")[:k % 8 + 1])
    return names


def any_worth(dice, spread):
    return dice.below(2 * spread + 1) - spread


def any_entry(dice, spread, names):
    return (any_worth(dice, spread), dice.one_of(names), dice.below(3))


def any_deed(dice, mix, names, spread):
    kind = dice.one_of(mix)
    if kind in ("take", "least"):
        return (kind,)
    name = dice.one_of(names)
    if kind == "drop":
        return (kind, name)
    return (kind, name, any_worth(dice, spread))
