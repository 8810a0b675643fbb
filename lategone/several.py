"""The several least things of a heap, and heaps put together."""

from lategone.rows.heaps import cut_first, lay_in


def firsts(heap, k):
    row = heap.row()
    places = []
    offer(places, row, 0)
    things = []
    steps = 0
    while len(things) < k and len(places) > 0:
        place = places[0][1]
        cut_first(places)
        steps = steps + 1
        entry = row[place]
        if heap.holds(entry):
            things.append((entry[0], entry[1]))
        offer(places, row, 2 * place + 1)
        offer(places, row, 2 * place + 2)
    return (tuple(things), steps)


def offer(places, row, place):
    # The entry stands ahead of its place, so that places are compared by their entries.
    if place < len(row):
        lay_in(places, (row[place], place))


def put_together(one, other):
    if one.many() < other.many():
        return with_all_of(other, one)
    return with_all_of(one, other)


def with_all_of(greater, lesser):
    things = lesser.things()
    # All names are asked for ahead of the first deed: a refusal must leave both heaps as they are.
    for thing in things:
        greater.need_free(thing[0])
    for thing in things:
        lesser.drop(thing[0])
        greater.put(thing[0], thing[1])
    return greater
