"""Right links for the tests, as dicts of their fields."""

from heardtrue.links import Link
from heardtrue.machines import shift_machine
from heardtrue.symbols import levels, square
from support import line_of

PLAIN = {
    "opening": ((4, 0), (0, 4), (4, 0)),
    "lines": (line_of((1, 0)),),
    "slack": 1,
    "sender": ("sender", ("machine", 1, 1, ((0, 0),), (((0,), (1,)),)), ((1,),), ("symbols", 1, ((-1, 0), (1, 0)))),
    "code": ("words", 4, 19, 15, 5),
    "words": 1,
    "mix": ("mix", 1, 15),
    "check": ("check", 4, 19),
    "scrambler": ("scramble", 4, 19, 1),
    "runs": 2,
}
WIDE = {
    "opening": ((9, 0), (0, 9), (9, 9), (-9, 0)),
    "lines": (line_of((1, 0), (0, 1)), line_of((2, 0), (0, 0), (1, 1), (0, 1))),
    "slack": 4,
    "sender": ("sender", shift_machine((7, 5)), ((1, 1), (0, 1)), levels(1)),
    "code": ("words", 3, 11, 7, 5),
    "words": 3,
    "mix": ("mix", 7, 3),
    "check": ("check", 5, 37),
    "scrambler": ("scramble", 3, 11, 5),
    "runs": 4,
}
GREAT = {
    "opening": ((1000, -1000),) * 64,
    "lines": (line_of((1, 0)),) * 4,
    "slack": 50,
    "sender": ("sender", shift_machine((7, 5)), ((1, 1), (1, 1)), square(4)),
    "code": ("words", 8, 285, 255, 32),
    "words": 8,
    "mix": ("mix", 8, 255),
    "check": ("check", 16, 69643),
    "scrambler": ("scramble", 16, 69643, 0x8001),
    "runs": 8,
}
# No byte has room: the number of the bytes and the check are all that is told.
EMPTY = dict(PLAIN, code=("words", 4, 19, 15, 3), mix=("mix", 5, 3))
ALL = (PLAIN, WIDE, GREAT, EMPTY)


def link_of(fields, **changed):
    return Link(**dict(fields, **changed))
