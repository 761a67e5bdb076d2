"""Machines with a memory, which make bits of choices."""

from heardtrue.errors import ShapeError
from heardtrue.kinds import is_between, is_tuple, is_tuple_between, is_word
from heardtrue.symbols import numbers_in, row_for

MOST_STATES = 16
MOST_GIVEN = 4


def is_machine(thing):
    """True if a thing of any kind is a machine."""
    if not is_tuple(thing, 5) or not is_word(thing[0], "machine"):
        return False
    if not is_between(thing[1], 1, 2) or not is_between(thing[2], 1, MOST_GIVEN):
        return False
    return are_nexts(thing[3], 1 << thing[1]) and are_outs(thing[4], len(thing[3]), 1 << thing[1], thing[2])


def are_nexts(thing, choices):
    """True for a tuple that has for each state a tuple with a state for each choice."""
    if not isinstance(thing, tuple) or not is_between(len(thing), 1, MOST_STATES):
        return False
    return all([is_tuple_between(row, choices, 0, len(thing) - 1) for row in thing])


def are_outs(thing, states, choices, many):
    """True for a tuple that has for each state a tuple with so many bits for each choice."""
    if not is_tuple(thing, states) or not all([is_tuple(row, choices) for row in thing]):
        return False
    return all([is_tuple_between(bits, many, 0, 1) for row in thing for bits in row])


def check_machine(machine):
    """Raises ShapeError if a thing of any kind is no machine."""
    if not is_machine(machine):
        raise ShapeError("machine")


def shift_machine(polys):
    """The machine of a shift register with a tuple of polynomials."""
    if not isinstance(polys, tuple) or not is_between(len(polys), 1, MOST_GIVEN):
        raise ShapeError("shift")
    if not is_tuple_between(polys, len(polys), 0, 31):
        raise ShapeError("shift")
    states = 1
    while max(polys) >= 2 * states:
        states = 2 * states
    windows = [(state, states + state) for state in range(states)]
    nexts = tuple([(zero // 2, one // 2) for zero, one in windows])
    outs = tuple([(parities(zero, polys), parities(one, polys)) for zero, one in windows])
    return ("machine", 1, len(polys), nexts, outs)


def parities(window, polys):
    """The bits that a shift register with these polynomials gives for a window."""
    return tuple([parity(window & poly) for poly in polys])


def parity(number):
    """The parity of the number of ones of a number that is not negative."""
    odd = 0
    while number > 0:
        odd = odd ^ (number & 1)
        number = number >> 1
    return odd


def choices_of(machine, row):
    """The choices that a row of bits stands for."""
    return numbers_in(row, machine[1])


def row_of(machine, choices):
    """The row of the bits for which choices stand."""
    return row_for(choices, machine[1])


def run(machine, state, choices):
    """The state behind choices, from a state on, and the bits given."""
    nexts, outs = machine[3], machine[4]
    given = []
    for choice in choices:
        given.extend(outs[state][choice])
        state = nexts[state][choice]
    return (state, given)


def leading_to(machine, goals):
    """A dict from the states from which a choice leads to a goal, ascending, to the least such choice."""
    firsts = {}
    for state, row in enumerate(machine[3]):
        for choice, after in enumerate(row):
            if after in goals and state not in firsts:
                firsts[state] = choice
    return firsts


def ways_back(machine, steps):
    """A dict from the states from which choices lead back in so many steps to the least list of them."""
    layers = [{0: None}]
    for _ in range(steps):
        layers.append(leading_to(machine, layers[-1]))
    return {state: way_down(machine, layers, state) for state in layers[-1]}


def way_down(machine, layers, state):
    """The choices from a state on, the last layer telling the first one."""
    way = []
    for firsts in reversed(layers[1:]):
        way.append(firsts[state])
        state = machine[3][state][firsts[state]]
    return way


def tail_steps(machine, unit):
    """The least multiple of the unit in which choices lead back from every state, or None."""
    goals = {0: None}
    seen = set()
    steps = 0
    while len(goals) < len(machine[3]):
        # The same states again mean that the same ones follow for ever.
        if tuple(goals) in seen:
            return None
        seen.add(tuple(goals))
        goals = leading_to(machine, goals)
        steps += 1
    # Where all states lead back in so many steps, they do in each greater number, too.
    return -(-steps // unit) * unit
