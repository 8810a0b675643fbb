"""What every heap of named things keeps, however it deals with the entries that are gone."""

from lategone.errors import Clash, NoThing


class Named:
    def __init__(self):
        # The one entry of each name that is there. An entry that is not in here is gone: no other mark is needed,
        # for no two entries have the same stamp.
        self.there = {}
        self.stamp = 0

    def many(self):
        return len(self.there)

    def things(self):
        return tuple([(name, self.there[name][0]) for name in sorted(self.there)])

    def holds(self, entry):
        return self.there.get(entry[1]) == entry

    def need(self, name):
        if name not in self.there:
            raise NoThing(f"{name} is not there")

    def need_free(self, name):
        if name in self.there:
            raise Clash(f"{name} is there")

    def need_any(self):
        if len(self.there) == 0:
            raise NoThing("nothing is there")

    def stamped(self, name, worth):
        entry = (worth, name, self.stamp)
        self.stamp = self.stamp + 1
        self.there[name] = entry
        return entry
