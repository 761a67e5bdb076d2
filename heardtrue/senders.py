"""Senders: a machine, a pattern of the bits that are sent, and the symbols for them."""

from heardtrue.errors import ShapeError
from heardtrue.kinds import is_between, is_tuple_between
from heardtrue.machines import check_machine, choices_of, row_of, run, tail_steps, ways_back
from heardtrue.symbols import bits_of, check_symbols, numbers_in, points_of, row_for

MOST_ROWS = 4
MOST_TAIL = 16


def check_sender(sender):
    """Raises ShapeError with the first name that applies, if there is one."""
    _, machine, pattern, symbols = sender
    check_machine(machine)
    check_symbols(symbols)
    if not isinstance(pattern, tuple) or not is_between(len(pattern), 1, MOST_ROWS):
        raise ShapeError("pattern")
    if not all([is_tuple_between(row, machine[2], 0, 1) for row in pattern]):
        raise ShapeError("pattern")
    ones = sum(marks_of(sender))
    if ones == 0 or ones % symbols[1] != 0:
        raise ShapeError("ones")
    tail_blocks(sender)


def marks_of(sender):
    """A 1 for each bit of a block that is sent, and a 0 for each other one."""
    return [mark for row in sender[2] for mark in row]


def sizes(sender):
    """The numbers of the bits and of the points of a block."""
    return (len(sender[2]) * sender[1][1], sum(marks_of(sender)) // sender[3][1])


def block(sender, state, label):
    """The state behind a block, and its points."""
    machine = sender[1]
    bits, _ = sizes(sender)
    after, given = run(machine, state, choices_of(machine, bits_of(label, bits)))
    kept = [bit for bit, mark in zip(given, marks_of(sender)) if mark == 1]
    return (after, tuple(points_of(sender[3], kept)))


def blocks_of(sender):
    """All that block returns, by states and labels."""
    bits, _ = sizes(sender)
    told = [[block(sender, state, label) for label in range(1 << bits)] for state in range(len(sender[1][3]))]
    nexts = tuple([tuple([after for after, _ in row]) for row in told])
    points = tuple([tuple([sent for _, sent in row]) for row in told])
    return ("blocks", bits, nexts, points)


def tail_blocks(sender):
    """The number of the blocks of the tail."""
    rows = len(sender[2])
    steps = tail_steps(sender[1], rows)
    if steps is None or steps > MOST_TAIL * rows:
        raise ShapeError("tail")
    return steps // rows


def tail(sender):
    """The number of the blocks of the tail, and a dict from all states to its labels."""
    blocks = tail_blocks(sender)
    return (blocks, ways_home(sender, blocks))


def ways_home(sender, blocks):
    """A dict from the states from which just so many blocks lead to the state 0 to the least labels."""
    _, machine, pattern, _ = sender
    bits, _ = sizes(sender)
    # A label writes its choices one behind the other, so the least choices write the least labels.
    ways = ways_back(machine, blocks * len(pattern))
    return {state: numbers_in(row_of(machine, choices), bits) for state, choices in ways.items()}


def labels_in(sender, row):
    """The labels of the blocks of a row."""
    bits, _ = sizes(sender)
    return numbers_in(row, bits)


def tied(sender, row):
    """The row with its tail behind it."""
    state, _ = walked(sender, labels_in(sender, row))
    bits, _ = sizes(sender)
    _, ways = tail(sender)
    return row + row_for(ways[state], bits)


def points_for(sender, row):
    """The points for a row of whole blocks."""
    _, points = walked(sender, labels_in(sender, row))
    return points


def walked(sender, labels):
    """The state behind labels from the state 0 on, and the points."""
    state = 0
    points = []
    for label in labels:
        state, sent = block(sender, state, label)
        points.extend(sent)
    return (state, points)
