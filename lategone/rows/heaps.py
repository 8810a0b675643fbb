"""Rows of entries (worth, name, stamp) that are heaps.

first_wrong, put_in, taken and made take and tell rows as tuples. lay_in, cut_first and order do the same to a list
in its place, for those who keep one: so a long row is not copied for each short deed.
"""

from lategone.errors import NoThing


def first_wrong(row):
    for place in range(1, len(row)):
        if row[place] < row[(place - 1) // 2]:
            return place
    return None


def put_in(row, entry):
    heap = list(row)
    looks = lay_in(heap, entry)
    return (tuple(heap), looks)


def taken(row):
    if len(row) == 0:
        raise NoThing("the heap is empty")
    heap = list(row)
    looks = cut_first(heap)
    return (row[0], tuple(heap), looks)


def made(row):
    heap = list(row)
    looks = order(heap)
    return (tuple(heap), looks)


def lay_in(heap, entry):
    heap.append(entry)
    return lift(heap, len(heap) - 1)


def cut_first(heap):
    last = heap.pop()
    # The last one may be the first one too: then there is no place to lay it in.
    if len(heap) == 0:
        return 0
    heap[0] = last
    return let_down(heap, 0)


def order(heap):
    looks = 0
    for place in range(len(heap) // 2 - 1, -1, -1):
        looks = looks + let_down(heap, place)
    return looks


def lift(heap, start):
    place = start
    looks = 0
    while place > 0:
        above = (place - 1) // 2
        looks = looks + 1
        if not heap[place] < heap[above]:
            return looks
        exchange(heap, place, above)
        place = above
    return looks


def let_down(heap, start):
    place = start
    looks = 0
    while 2 * place + 1 < len(heap):
        beneath = 2 * place + 1
        if beneath + 1 < len(heap):
            looks = looks + 1
            # Of like ones the nearer place stays, so only a lesser one is preferred.
            if heap[beneath + 1] < heap[beneath]:
                beneath = beneath + 1
        looks = looks + 1
        if not heap[beneath] < heap[place]:
            return looks
        exchange(heap, place, beneath)
        place = beneath
    return looks


def exchange(heap, place, other):
    held = heap[place]
    heap[place] = heap[other]
    heap[other] = held
