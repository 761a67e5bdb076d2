"""What the tests share: faults, arguments that stay, things to try, and slow searches by the document's words."""

import copy
import random
from itertools import product

from heardtrue.errors import ShapeError
from heardtrue.senders import check_sender


def fault(function, *arguments):
    """The name of the ShapeError that a call raises, or None."""
    try:
        function(*arguments)
    except ShapeError as error:
        return error.name
    return None


def changeable(thing):
    """All lists and dicts in a thing, at any depth."""
    if isinstance(thing, dict):
        inner = list(thing.keys()) + list(thing.values())
    elif isinstance(thing, (list, tuple)):
        inner = list(thing)
    else:
        return []
    found = [] if isinstance(thing, tuple) else [thing]
    for item in inner:
        found.extend(changeable(item))
    return found


def spoil(thing):
    """Changes all lists and dicts in a thing, at any depth."""
    for part in changeable(thing):
        if isinstance(part, dict):
            part["spoilt"] = "spoilt"
        else:
            part.append("spoilt")


def stands_alone(case, function, *arguments):
    """Point 1.4 for one call: nothing that is passed in changes, and nothing that comes out is shared."""
    ahead = copy.deepcopy(arguments)
    first = function(*arguments)
    case.assertEqual(arguments, ahead)
    kept = copy.deepcopy(first)
    second = function(*arguments)
    passed = [id(part) for part in changeable(arguments)]
    for result in (first, second):
        parts = [id(part) for part in changeable(result)]
        case.assertEqual(len(parts), len(set(parts)))
        case.assertFalse(set(parts) & set(passed))
    case.assertFalse({id(part) for part in changeable(first)} & {id(part) for part in changeable(second)})
    spoil(first)
    case.assertEqual(arguments, ahead)
    case.assertEqual(second, kept)
    case.assertEqual(function(*arguments), kept)


def lists_of(machine, length):
    """All lists of so many choices, ascending."""
    return [list(choices) for choices in product(range(2 ** machine[1]), repeat=length)]


def any_machine(source, k, n, states, likely=1):
    """A machine by a source of random numbers; the likelier a bit is 0, the more outputs are alike."""
    choices = 2 ** k

    def bit():
        return 1 if source.randrange(likely + 1) == 0 else 0

    return (
        "machine", k, n,
        tuple(tuple(source.randrange(states) for _ in range(choices)) for _ in range(states)),
        tuple(tuple(tuple(bit() for _ in range(n)) for _ in range(choices)) for _ in range(states)),
    )


def machines(seed, many, most_states, most_k=2, most_n=2):
    """So many machines, the same ones for each seed."""
    source = random.Random(seed)
    found = []
    for _ in range(many):
        k, n = source.randint(1, most_k), source.randint(1, most_n)
        found.append(any_machine(source, k, n, source.randint(1, most_states), source.randint(1, 3)))
    return found


def line_of(*taps):
    return ("line", tuple(taps))


def any_points(source, many, most):
    return [(source.randint(-most, most), source.randint(-most, most)) for _ in range(many)]


def any_line(source, many, most):
    return line_of((1, -1), *any_points(source, many - 1, most))


def smeared_by_hand(line, points):
    """The sum of point 2.5, word by word."""
    samples = []
    for t in range(len(points) + len(line[1]) - 1 if points else 0):
        x = y = 0
        for j, (a, b) in enumerate(line[1]):
            if 0 <= t - j < len(points):
                c, d = points[t - j]
                x, y = x + a * c - b * d, y + a * d + b * c
        samples.append((x, y))
    return samples


def any_symbols(source, bits):
    """Symbols in any order, with parts from -5 to 5 that are alike."""
    x, y = source.randrange(2), source.randrange(2)
    points = [(a, b) for a in range(-5, 6) for b in range(-5, 6) if a % 2 == x and b % 2 == y]
    return ("symbols", bits, tuple(source.sample(points, 2 ** bits)))


def any_pattern(source, rows, many, bits):
    """So many rows of so many bits, with a positive multiple of ones; None if there is no such pattern."""
    if rows * many < bits:
        return None
    ones = source.choice(range(bits, rows * many + 1, bits))
    marks = [1] * ones + [0] * (rows * many - ones)
    source.shuffle(marks)
    return tuple(tuple(marks[at * many:at * many + many]) for at in range(rows))


def any_sender(source, most_bits=4, most_states=4):
    """A right sender, whose blocks have at most so many bits."""
    while True:
        k, n, rows, bits = source.randint(1, 2), source.randint(1, 4), source.randint(1, 4), source.randint(1, 4)
        pattern = any_pattern(source, rows, n, bits)
        if pattern is None or rows * k > most_bits:
            continue
        machine = any_machine(source, k, n, source.randint(1, most_states))
        sender = ("sender", machine, pattern, any_symbols(source, bits))
        if fault(check_sender, sender) is None:
            return sender


def senders(seed, many, most_bits=4, most_states=4):
    """So many right senders, the same ones for each seed."""
    source = random.Random(seed)
    return [any_sender(source, most_bits, most_states) for _ in range(many)]


def bits_in(number, many):
    """The lowest bits of a number, the highest one first."""
    return [number // 2 ** place % 2 for place in reversed(range(many))]


def number_in(bits):
    return int("0" + "".join(map(str, bits)), 2)


def block_bits(sender):
    return len(sender[2]) * sender[1][1]


def block_by_hand(sender, state, label):
    """Point 4.1, word by word: the state behind a block, and its points."""
    _, (_, k, _, nexts, outs), pattern, (_, b, symbols) = sender
    bits = bits_in(label, k * len(pattern))
    given = []
    for at, row in enumerate(pattern):
        choice = number_in(bits[at * k:at * k + k])
        given += [bit for bit, mark in zip(outs[state][choice], row) if mark == 1]
        state = nexts[state][choice]
    return state, [symbols[number_in(given[at:at + b])] for at in range(0, len(given), b)]


def state_behind(sender, state, labels):
    for label in labels:
        state, _ = block_by_hand(sender, state, label)
    return state


def ways_by_hand(sender, blocks):
    """A dict from states to the least labels by which so many blocks lead to the state 0."""
    ways = {}
    for labels in product(range(2 ** block_bits(sender)), repeat=blocks):
        for state in range(len(sender[1][3])):
            if state not in ways and state_behind(sender, state, labels) == 0:
                ways[state] = list(labels)
    return dict(sorted(ways.items()))


def tail_by_hand(sender):
    """The least number of blocks that lead to the state 0 from all states, and the ways."""
    blocks = 0
    while len(ways_by_hand(sender, blocks)) < len(sender[1][3]):
        blocks += 1
    return blocks, ways_by_hand(sender, blocks)


def label_lists(sender, blocks):
    """All lists of so many labels, ascending."""
    return [list(labels) for labels in product(range(2 ** block_bits(sender)), repeat=blocks)]


def row_in(sender, labels):
    return [bit for label in labels for bit in bits_in(label, block_bits(sender))]


def rows_of(sender, blocks):
    """All rows of so many blocks, ascending."""
    return [row_in(sender, labels) for labels in label_lists(sender, blocks)]


def paths_through(trellis):
    """All paths of a trellis with their costs, ascending by the labels."""
    found = [([], 0, 0)]
    for layer in trellis[2]:
        found = [
            (labels + [label], spent + cost, after)
            for labels, spent, at in found for room, after, label, cost in layer if room == at
        ]
    return [(labels, spent) for labels, spent, at in found if at in trellis[3]]


def any_trellis(source, most_times=4, most_rooms=3, most_cost=3):
    """A trellis with gaps: empty layers, rooms without edges, and any ends."""
    widths = [source.randint(1, most_rooms) for _ in range(source.randint(1, most_times))]
    layers = []
    for width, behind in zip(widths, widths[1:]):
        places = [(room, label) for room in range(width) for label in range(3) if source.random() < 0.6]
        layers.append([(room, source.randrange(behind), label, source.randint(0, most_cost)) for room, label in places])
    ends = tuple(end for end in range(widths[-1]) if source.random() < 0.7)
    return ("trellis", tuple(widths), layers, ends)


def trellises(seed, many, most_times=4, most_rooms=3, most_cost=3):
    """So many trellises, the same ones for each seed."""
    source = random.Random(seed)
    return [any_trellis(source, most_times, most_rooms, most_cost) for _ in range(many)]
