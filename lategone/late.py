"""A heap in which gone things are left, marked, and taken out late."""

from lategone.named import Named
from lategone.rows.heaps import cut_first, lay_in, order


class Late(Named):
    def __init__(self, slack):
        Named.__init__(self)
        self.slack = slack
        self.entries = []
        self.looks = 0

    def put(self, name, worth):
        self.need_free(name)
        self.enter(name, worth)
        self.sweep_if_due()

    def drop(self, name):
        self.need(name)
        self.there.pop(name)
        self.sweep_if_due()

    def change(self, name, worth):
        self.need(name)
        self.enter(name, worth)
        self.sweep_if_due()

    def least(self):
        entry = self.first_there()
        return (entry[0], entry[1])

    def take(self):
        entry = self.first_there()
        self.cut()
        self.there.pop(entry[1])
        self.sweep_if_due()
        return (entry[0], entry[1])

    def row(self):
        return tuple(self.entries)

    def work(self):
        return self.looks

    def enter(self, name, worth):
        self.looks = self.looks + lay_in(self.entries, self.stamped(name, worth))

    def cut(self):
        self.looks = self.looks + cut_first(self.entries)

    def first_there(self):
        # Asked ahead of any cutting: a refused deed must leave the gone entries where they are.
        self.need_any()
        while not self.holds(self.entries[0]):
            self.cut()
        return self.entries[0]

    def sweep_if_due(self):
        gone = len(self.entries) - len(self.there)
        if gone > len(self.there) and gone > self.slack:
            self.entries = [entry for entry in self.entries if self.holds(entry)]
            self.looks = self.looks + order(self.entries)
