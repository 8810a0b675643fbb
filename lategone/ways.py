"""The nearest ways through a web of rows (from, to, length), and a looker at lengths that are said of it."""

from lategone.late import Late


def nearest(web, first):
    rows = by_from(web)
    lengths = {first: 0}
    heap = Late(0)
    heap.put(first, 0)
    while heap.many() > 0:
        name = heap.take()[1]
        for row in rows.get(name, ()):
            come_to(row[1], lengths[name] + row[2], lengths, heap)
    return (lengths, ways_of(web, lengths))


def come_to(name, length, lengths, heap):
    if name not in lengths:
        heap.put(name, length)
        lengths[name] = length
    # Never so for a name that was taken out: those taken out later are no nearer, and no row has a length below 1.
    elif length < lengths[name]:
        heap.change(name, length)
        lengths[name] = length


def ways_of(web, lengths):
    ways = {}
    for row in web:
        if is_exact(row, lengths):
            ways[row[1]] = min(row[0], ways.get(row[1], row[0]))
    return ways


# It reckons no way: it only holds each row and each name against the lengths.
def lengths_shown(web, first, lengths):
    if lengths.get(first) != 0:
        return False
    if any([is_nearer(row, lengths) for row in web]):
        return False
    return len(going_back(web, first, lengths)) == len(lengths)


def going_back(web, first, lengths):
    rows = by_from([row for row in web if is_exact(row, lengths)])
    found = {first: True}
    names = [first]
    while len(names) > 0:
        name = names.pop()
        for row in rows.get(name, ()):
            if row[1] not in found:
                found[row[1]] = True
                names.append(row[1])
    return found


def is_exact(row, lengths):
    return row[0] in lengths and lengths.get(row[1]) == lengths[row[0]] + row[2]


def is_nearer(row, lengths):
    if row[0] not in lengths:
        return False
    return row[1] not in lengths or lengths[row[1]] > lengths[row[0]] + row[2]


def by_from(web):
    rows = {}
    for row in web:
        rows.setdefault(row[0], []).append(row)
    return rows
