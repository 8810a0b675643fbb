"""What the deeds on a heap pay into a purse, and what their work takes out of it."""

from lategone.errors import Clash, NoThing
from lategone.late import Late

# Where in a tariff each deed's pay stands.
PAYS = {"put": 0, "drop": 1, "change": 2, "take": 3, "least": 4}


def tariff(bound):
    single = 3 * bound + 5
    return (single, single, 2 * single, single, 0)


def ledger(deeds, slack, tariff):
    return written(deeds, slack, tariff)


def ledger_shown(ledger, slack, tariff):
    deeds = [line[0] for line in ledger]
    try:
        right = written(deeds, slack, tariff)
    except (Clash, NoThing):
        return False
    return ledger == right and all([line[2] >= 0 for line in right])


# Under a name of its own: within ledger_shown the name ledger stands for what is handed in.
def written(deeds, slack, tariff):
    heap = Late(slack)
    purse = 0
    lines = []
    for deed in deeds:
        before = heap.work()
        carry_out(heap, deed)
        work = heap.work() - before
        purse = purse + tariff[PAYS[deed[0]]] - work
        lines.append((deed, work, purse))
    return tuple(lines)


def carry_out(heap, deed):
    if deed[0] == "put":
        return heap.put(deed[1], deed[2])
    if deed[0] == "drop":
        return heap.drop(deed[1])
    if deed[0] == "change":
        return heap.change(deed[1], deed[2])
    if deed[0] == "take":
        return heap.take()
    return heap.least()
