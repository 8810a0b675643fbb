"""The refusals, each under HeapError and none of them under another one."""


# Any refusal.
class HeapError(ValueError):
    pass


# A name is there already.
class Clash(HeapError):
    pass


# Nothing is there, or not the thing that is named.
class NoThing(HeapError):
    pass


# A line is none that can be asked.
class NoAsk(HeapError):
    pass
