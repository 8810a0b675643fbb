"""A heap that keeps what is gone in a second heap."""

from lategone.named import Named
from lategone.rows.heaps import cut_first, lay_in


class Twins(Named):
    def __init__(self):
        Named.__init__(self)
        self.entries = []
        self.gone = []

    def put(self, name, worth):
        self.need_free(name)
        lay_in(self.entries, self.stamped(name, worth))

    def drop(self, name):
        self.need(name)
        lay_in(self.gone, self.there.pop(name))

    def change(self, name, worth):
        self.drop(name)
        lay_in(self.entries, self.stamped(name, worth))

    def least(self):
        entry = self.first_left()
        return (entry[0], entry[1])

    def take(self):
        entry = self.first_left()
        cut_first(self.entries)
        self.there.pop(entry[1])
        return (entry[0], entry[1])

    def rows(self):
        return (tuple(self.entries), tuple(self.gone))

    def first_left(self):
        # Asked ahead of any cutting: a refused deed must leave both rows as they are.
        self.need_any()
        # Every gone entry lies in both heaps. So where the first one of all is gone, it is the first of the gone
        # ones too, and behind this loop the first one of all is there.
        while len(self.gone) > 0 and self.gone[0] == self.entries[0]:
            cut_first(self.entries)
            cut_first(self.gone)
        return self.entries[0]
