"""Machines one behind the other, machines that are alike, and machines that lose what they take."""

from heardtrue.errors import ShapeError
from heardtrue.machines import MOST_GIVEN, MOST_STATES, choices_of, run


def behind(first, second):
    """The machine of a first machine and a second one that takes the bits that the first one gives."""
    states = len(first[3]) * len(second[3])
    given = first[2] // second[1] * second[2]
    if first[2] % second[1] != 0 or given > MOST_GIVEN or states > MOST_STATES:
        raise ShapeError("behind")
    nexts = []
    outs = []
    for state in range(states):
        steps = [step_of_both(first, second, state, choice) for choice in range(1 << first[1])]
        nexts.append(tuple([after for after, _ in steps]))
        outs.append(tuple([bits for _, bits in steps]))
    return ("machine", first[1], given, tuple(nexts), tuple(outs))


def step_of_both(first, second, state, choice):
    """The state behind a choice, for two machines one behind the other, and the bits that the second one gives."""
    many = len(second[3])
    after, taken = run(first, state // many, [choice])
    last, given = run(second, state % many, choices_of(second, taken))
    return (after * many + last, tuple(given))


def found_from(begin, steps_of):
    """A dict from all rooms that can be come to to the room ahead and the step, or None for the first.

    A room is found by its shortest way, of several ones the least; the rooms stand in the order of these ways.
    """
    came = {begin: None}
    order = [begin]
    at = 0
    while at < len(order):
        ahead = order[at]
        for step, room in steps_of(ahead):
            if room not in came:
                came[room] = (ahead, step)
                order.append(room)
        at += 1
    return came


def walk_to(came, room):
    """The steps of the way by which a room is found."""
    walk = []
    while came[room] is not None:
        room, step = came[room]
        walk.append(step)
    walk.reverse()
    return walk


def way_round(begin, steps_of):
    """The shortest and then least way of at least one step from a room back to it, or None."""
    came = found_from(begin, steps_of)
    for room in came:
        for step, after in steps_of(room):
            if after == begin:
                return walk_to(came, room) + [step]
    return None


def reached(machine):
    """The states that can be reached from 0, in the order in which they are found first."""
    return list(found_from(0, lambda state: list(enumerate(machine[3][state]))))


def classes_of(machine, states):
    """A dict from reached states to the numbers of their classes, in the order in which they are found first."""
    classes = {state: 0 for state in states}
    many = 1
    while True:
        # Classes that tell rows of so many steps apart become those that tell rows of one step more apart.
        names = {}
        finer = {}
        for state in states:
            mark = (machine[4][state], tuple([classes[after] for after in machine[3][state]]))
            finer[state] = names.setdefault(mark, len(names))
        if len(names) == many:
            return finer
        classes = finer
        many = len(names)


def reduced(machine):
    """The least machine that is alike."""
    classes = classes_of(machine, reached(machine))
    nexts = {}
    outs = {}
    for state, name in classes.items():
        nexts[name] = tuple([classes[after] for after in machine[3][state]])
        outs[name] = machine[4][state]
    return ("machine", machine[1], machine[2], tuple(nexts.values()), tuple(outs.values()))


def steps_beside(first, second, states):
    """The choices of two machines side by side, each with the pair of the states behind it."""
    return list(enumerate(zip(first[3][states[0]], second[3][states[1]])))


def unlike(first, second):
    """The first list of choices for which two machines give different bits, or None."""
    came = found_from((0, 0), lambda states: steps_beside(first, second, states))
    for one, other in came:
        for choice in range(1 << first[1]):
            if first[4][one][choice] != second[4][other][choice]:
                return walk_to(came, (one, other)) + [choice]
    return None


def pair_steps(machine, pair):
    """The ascending steps of two copies that give the same bits, each with the pair behind it.

    A pair is the states of both copies and whether they have parted.
    """
    one, other, parted = pair
    nexts, outs = machine[3], machine[4]
    many = 1 << machine[1]
    return [
        ((a, b), (nexts[one][a], nexts[other][b], parted or a != b))
        for a in range(many) for b in range(many) if outs[one][a] == outs[other][b]
    ]


def pairs_found(machine, begin):
    """The pairs that can be come to from a pair, as found_from tells them."""
    return found_from(begin, lambda pair: pair_steps(machine, pair))


def sides(walk):
    """The choices of the two copies in a pair walk."""
    return ([one for one, _ in walk], [other for _, other in walk])


def loses(machine):
    """How the machine loses what it takes, by meeting or by a ring, or None."""
    came = pairs_found(machine, (0, 0, False))
    parted = [pair for pair in came if pair[2]]
    for pair in parted:
        if pair[0] == pair[1]:
            return ("merge", *sides(walk_to(came, pair)))
    for pair in parted:
        ring = way_round(pair, lambda room: pair_steps(machine, room))
        if ring is not None:
            return ("ring", *sides(walk_to(came, pair)), *sides(ring))
    return None


def parted_behind(machine, pairs):
    """The pairs that have parted one step behind some pairs, each once."""
    return list({after: True for pair in pairs for _, after in pair_steps(machine, pair) if after[2]})


def delay(machine):
    """The most steps for which two rows with the same bits can have parted, or None if the machine loses."""
    if loses(machine) is not None:
        return None
    together = [pair for pair in pairs_found(machine, (0, 0, False)) if not pair[2]]
    pairs = parted_behind(machine, together)
    steps = 0
    # Without a ring no pair comes twice on one way, so the pairs run out.
    while len(pairs) > 0:
        steps += 1
        pairs = parted_behind(machine, pairs)
    return steps
