"""A heap in which gone things are left, marked, and taken out late."""

from lategone.errors import Clash, NoThing
from lategone.rows.heaps import cut_first, lay_in, order


class Late:
    def __init__(self, slack):
        self.slack = slack
        self.entries = []
        # The one entry of each name that is there. An entry that is not in here is gone: no other mark is needed,
        # for no two entries have the same stamp.
        self.there = {}
        self.stamp = 0
        self.looks = 0

    def put(self, name, worth):
        if name in self.there:
            raise Clash(f"{name} is there")
        self.enter(name, worth)
        self.sweep_if_due()

    def drop(self, name):
        self.need(name)
        self.there.pop(name)
        self.sweep_if_due()

    def change(self, name, worth):
        self.need(name)
        self.enter(name, worth)
        self.sweep_if_due()

    def least(self):
        entry = self.first_there()
        return (entry[0], entry[1])

    def take(self):
        entry = self.first_there()
        self.cut()
        self.there.pop(entry[1])
        self.sweep_if_due()
        return (entry[0], entry[1])

    def many(self):
        return len(self.there)

    def row(self):
        return tuple(self.entries)

    def things(self):
        return tuple([(name, self.there[name][0]) for name in sorted(self.there)])

    def work(self):
        return self.looks

    def holds(self, entry):
        return self.there.get(entry[1]) == entry

    def need(self, name):
        if name not in self.there:
            raise NoThing(f"{name} is not there")

    def enter(self, name, worth):
        entry = (worth, name, self.stamp)
        self.stamp = self.stamp + 1
        self.there[name] = entry
        self.looks = self.looks + lay_in(self.entries, entry)

    def cut(self):
        self.looks = self.looks + cut_first(self.entries)

    def first_there(self):
        # Asked ahead of any cutting: a refused deed must leave the gone entries where they are.
        if len(self.there) == 0:
            raise NoThing("nothing is there")
        while not self.holds(self.entries[0]):
            self.cut()
        return self.entries[0]

    def sweep_if_due(self):
        gone = len(self.entries) - len(self.there)
        if gone > len(self.there) and gone > self.slack:
            self.entries = [entry for entry in self.entries if self.holds(entry)]
            self.looks = self.looks + order(self.entries)
