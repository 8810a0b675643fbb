"""A desk that keeps heaps under names and is asked by lines."""

from lategone.errors import NoAsk
from lategone.late import Late
from lategone.purses import carry_out
from lategone.several import firsts, put_together
from lategone.words import is_name, is_number

# What each word of a line must be, by the first one.
FORMS = {
    "heap": ("word", "name", "count"),
    "put": ("word", "heap", "name", "number"),
    "drop": ("word", "heap", "name"),
    "change": ("word", "heap", "name", "number"),
    "take": ("word", "heap"),
    "least": ("word", "heap"),
    "first": ("word", "heap", "count"),
    "join": ("word", "heap", "heap"),
    "room": ("word", "heap"),
    "works": ("word", "heap"),
}


class Desk:
    def __init__(self):
        self.heaps = {}
        # The work that each heap has from those that were joined with it, beside its own.
        self.joined = {}

    def ask(self, line):
        # All that asks nothing is refused in here, ahead of what a heap may refuse.
        asked = self.understood(line.split(" "))
        if asked[0] == "heap":
            self.stand(asked[1], Late(asked[2]), 0)
            return []
        if asked[0] == "join":
            self.bring_together(asked[1], asked[2])
            return []
        return self.answer(asked[0], asked[1], asked[2:])

    def answer(self, word, name, rest):
        heap = self.heaps[name]
        if word == "first":
            return [shown(thing) for thing in firsts(heap, rest[0])[0]]
        if word == "room":
            return [shown((heap.many(), len(heap.row())))]
        if word == "works":
            return [str(self.works_of(name))]
        thing = carry_out(heap, (word,) + rest)
        return [] if thing is None else [shown(thing)]

    def stand(self, name, heap, joined):
        self.heaps[name] = heap
        self.joined[name] = joined

    def works_of(self, name):
        return self.heaps[name].work() + self.joined[name]

    def bring_together(self, name, second):
        one = self.heaps[name]
        other = self.heaps[second]
        comes = put_together(one, other)
        left = other if comes == one else one
        # Reckoned behind the putting together, for its deeds have work too.
        works = self.works_of(name) + self.works_of(second)
        self.stand(name, comes, works - comes.work())
        self.stand(second, Late(left.slack), 0)

    def understood(self, words):
        form = FORMS.get(words[0], ())
        if len(words) != len(form):
            raise NoAsk("no line of the desk")
        asked = tuple([self.meant(form[place], words[place]) for place in range(len(form))])
        if asked[0] == "join" and asked[1] == asked[2]:
            raise NoAsk("one heap can't be joined with itself")
        return asked

    def meant(self, kind, word):
        if kind == "word":
            return word
        if kind == "number":
            return number(word)
        if kind == "count":
            return counted(word)
        if not is_name(word):
            raise NoAsk(f"{word!r} is no name")
        if kind == "heap" and word not in self.heaps:
            raise NoAsk(f"no heap is called {word}")
        return word


def number(word):
    if not is_number(word):
        raise NoAsk(f"{word!r} is no number")
    return int(word)


def counted(word):
    many = number(word)
    if many < 0:
        raise NoAsk(f"{many} is below 0")
    return many


def shown(pair):
    return str(pair[0]) + " " + str(pair[1])
