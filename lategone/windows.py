"""The least, the greatest, the middle and the one at any share of each window of a row of worths."""

from lategone.errors import NoThing
from lategone.late import Late
from lategone.words import place_name


def leasts(row, width):
    return slid(row, width, Late(0))


def greatests(row, width):
    return turned(leasts(turned(row), width))


def middles(row, width):
    return shares(row, width, (1, 2))


def shares(row, width, share):
    return slid(row, width, Parted((width - 1) * share[0] // share[1]))


def turned(row):
    return tuple([0 - worth for worth in row])


def slid(row, width, heap):
    told = []
    for place in range(len(row)):
        heap.put(place_name(place), row[place])
        if place >= width:
            heap.drop(place_name(place - width))
        if place + 1 >= width:
            told.append(heap.least()[0])
    return tuple(told)


# Two heaps that answer as one whose so many lesser things are passed over: its least is the one at that place of all
# things in order. It is right as long as more things than that are there, ahead of each drop too.
class Parted:
    def __init__(self, place):
        self.place = place
        # In here the worths are turned round, so that the greatest of the lesser ones comes first.
        self.lesser = Late(0)
        self.greater = Late(0)

    def put(self, name, worth):
        self.lesser.put(name, 0 - worth)
        if self.lesser.many() > self.place:
            hand_over(self.lesser, self.greater)

    def drop(self, name):
        try:
            self.lesser.drop(name)
        except NoThing:
            self.greater.drop(name)
        else:
            hand_over(self.greater, self.lesser)

    def least(self):
        return self.greater.least()


def hand_over(heap, goal):
    first = heap.take()
    goal.put(first[1], 0 - first[0])
