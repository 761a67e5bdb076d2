"""What the tests share: faults by name, arguments that stay, lists that are not shared, and machines to try."""

import copy
import random
from itertools import product

from heardtrue.errors import ShapeError


def fault(function, *arguments):
    """The name of the ShapeError that a call raises, or None."""
    try:
        function(*arguments)
    except ShapeError as error:
        return error.name
    return None


def changeable(thing):
    """All lists and dicts in a thing, at any depth."""
    if isinstance(thing, dict):
        inner = list(thing.keys()) + list(thing.values())
    elif isinstance(thing, (list, tuple)):
        inner = list(thing)
    else:
        return []
    found = [] if isinstance(thing, tuple) else [thing]
    for item in inner:
        found.extend(changeable(item))
    return found


def spoil(thing):
    """Changes all lists and dicts in a thing, at any depth."""
    for part in changeable(thing):
        if isinstance(part, dict):
            part["spoilt"] = "spoilt"
        else:
            part.append("spoilt")


def stands_alone(case, function, *arguments):
    """Point 1.4 for one call: nothing that is passed in changes, and nothing that comes out is shared."""
    ahead = copy.deepcopy(arguments)
    first = function(*arguments)
    case.assertEqual(arguments, ahead)
    kept = copy.deepcopy(first)
    second = function(*arguments)
    passed = [id(part) for part in changeable(arguments)]
    for result in (first, second):
        parts = [id(part) for part in changeable(result)]
        case.assertEqual(len(parts), len(set(parts)))
        case.assertFalse(set(parts) & set(passed))
    case.assertFalse({id(part) for part in changeable(first)} & {id(part) for part in changeable(second)})
    spoil(first)
    case.assertEqual(arguments, ahead)
    case.assertEqual(second, kept)
    case.assertEqual(function(*arguments), kept)


def lists_of(machine, length):
    """All lists of so many choices, ascending."""
    return [list(choices) for choices in product(range(2 ** machine[1]), repeat=length)]


def any_machine(source, k, n, states, likely=1):
    """A machine by a source of random numbers; the likelier a bit is 0, the more outputs are alike."""
    choices = 2 ** k

    def bit():
        return 1 if source.randrange(likely + 1) == 0 else 0

    return (
        "machine", k, n,
        tuple(tuple(source.randrange(states) for _ in range(choices)) for _ in range(states)),
        tuple(tuple(tuple(bit() for _ in range(n)) for _ in range(choices)) for _ in range(states)),
    )


def machines(seed, many, most_states, most_k=2, most_n=2):
    """So many machines, the same ones for each seed."""
    source = random.Random(seed)
    found = []
    for _ in range(many):
        k, n = source.randint(1, most_k), source.randint(1, most_n)
        found.append(any_machine(source, k, n, source.randint(1, most_states), source.randint(1, 3)))
    return found
