"""Trellises: rooms by times, edges from one time to the next one, and the best paths through them."""

from heardtrue.errors import ShapeError
from heardtrue.kinds import is_between, is_integer, is_tuple, is_word


def is_trellis(thing):
    """True if a thing of any kind is a trellis."""
    if not is_tuple(thing, 4) or not is_word(thing[0], "trellis"):
        return False
    _, widths, layers, ends = thing
    if not isinstance(widths, tuple) or not isinstance(layers, list) or len(widths) != len(layers) + 1:
        return False
    if not all([is_integer(width) and width >= 1 for width in widths]):
        return False
    if not all([are_edges(layer, widths[at], widths[at + 1]) for at, layer in enumerate(layers)]):
        return False
    return are_ends(ends, widths[-1])


def are_edges(thing, width, behind):
    """True for a list of ascending edges between times with so many rooms."""
    if not isinstance(thing, list) or not all([is_edge(edge, width, behind) for edge in thing]):
        return False
    return is_ascending([(room, label) for room, _, label, _ in thing])


def is_edge(thing, width, behind):
    """True for an edge between times with so many rooms."""
    if not is_tuple(thing, 4) or not all([is_integer(item) and item >= 0 for item in thing]):
        return False
    return thing[0] < width and thing[1] < behind


def are_ends(thing, width):
    """True for a tuple of ascending rooms of a time with so many rooms."""
    if not isinstance(thing, tuple) or not all([is_between(end, 0, width - 1) for end in thing]):
        return False
    return is_ascending(thing)


def is_ascending(items):
    """True if each item of a list or a tuple is less than the next one."""
    return all([one < other for one, other in zip(items, items[1:])])


def check_trellis(trellis):
    """Raises ShapeError if a thing of any kind is no trellis."""
    if not is_trellis(trellis):
        raise ShapeError("trellis")


def edges_of(layer, room):
    """The edges of a layer that come from a room, in order."""
    return [edge for edge in layer if edge[0] == room]


def edge_with(layer, room, label):
    """The edge from a room with a label, or None."""
    # The edges of a layer ascend by room and label.
    low = 0
    high = len(layer)
    while low < high:
        middle = (low + high) // 2
        at, _, told, _ = layer[middle]
        if (at, told) < (room, label):
            low = middle + 1
        else:
            high = middle
    if low < len(layer) and layer[low][0] == room and layer[low][2] == label:
        return layer[low]
    return None


def cost_of(trellis, labels):
    """The cost of a path, or None if the labels are none."""
    _, _, layers, ends = trellis
    if len(labels) != len(layers):
        return None
    room = 0
    spent = 0
    for layer, label in zip(layers, labels):
        edge = edge_with(layer, room, label)
        if edge is None:
            return None
        _, room, _, cost = edge
        spent += cost
    return spent if room in ends else None


def best_path(trellis):
    """The labels and the cost of the best path, or None if there is no path."""
    _, _, layers, ends = trellis
    costs = {end: 0 for end in ends}
    choices = []
    for layer in reversed(layers):
        firsts = first_edges(layer, costs)
        choices.append(firsts)
        costs = {room: spent for room, (spent, _, _) in firsts.items()}
    if 0 not in costs:
        return None
    room = 0
    labels = []
    for firsts in reversed(choices):
        _, room, label = firsts[room]
        labels.append(label)
    return (labels, costs[0])


def first_edges(layer, costs):
    """A dict from the rooms from which an end can be come to, to the cost, and the next room and label of the best way.

    The costs are those from the next rooms on.
    """
    firsts = {}
    for room, after, label, cost in layer:
        if after in costs:
            spent = cost + costs[after]
            # The labels of a room ascend: so of several ways with one cost the first one is the least list.
            if room not in firsts or spent < firsts[room][0]:
                firsts[room] = (spent, after, label)
    return firsts


def apart(trellis, labels):
    """The trellis with the same paths but the one with these labels."""
    _, widths, layers, ends = trellis
    wider = [1] + [width + 1 for width in widths[1:]]
    left = []
    room = 0
    for at, label in enumerate(labels):
        beside = edges_of(layers[at], room)
        # Behind the other rooms of a time stands the one for being on the path still.
        here, there = wider[at] - 1, wider[at + 1] - 1
        onward = [(here, there if edge[2] == label else edge[1], edge[2], edge[3]) for edge in beside]
        left.append(onward if at == 0 else layers[at] + onward)
        room = edge_with(beside, room, label)[1]
    return ("trellis", tuple(wider), left, ends if len(labels) > 0 else ())


def two_best(trellis):
    """The best path and the second one, as far as there are some."""
    best = best_path(trellis)
    if best is None:
        return []
    second = best_path(apart(trellis, best[0]))
    return [best] if second is None else [best, second]


def moments(blocks, tail):
    """For each block of a run None, and for each one of its tail how many are left of it."""
    return [None] * blocks + list(reversed(range(1, tail + 1)))


def grown(begin, marks, steps_of):
    """The stages of a run, one for each of the marks, from a room on, and the rooms behind them, ascending.

    A stage is a dict from the rooms of a time, ascending, to their steps: a label, the room behind, and what is heard
    or paid. The steps of a room are told by the mark of the stage, which says where in the run it stands.
    """
    stages = []
    rooms = [begin]
    known = {}
    for mark in marks:
        stage = {}
        for room in rooms:
            if (room, mark) not in known:
                known[(room, mark)] = steps_of(room, mark)
            stage[room] = known[(room, mark)]
        stages.append(stage)
        rooms = sorted({after for steps in stage.values() for _, after, _ in steps})
    return (stages, rooms)


def thinned(steps):
    """Of ascending steps that tell costs the cheapest one to each room, of several ones the first; ascending."""
    firsts = {}
    for step in steps:
        _, after, cost = step
        if after not in firsts or cost < firsts[after][2]:
            firsts[after] = step
    return sorted(firsts.values())


def layers_through(stages, last):
    """The widths and the layers of a trellis of stages whose steps tell costs, with the rooms behind the last one."""
    rows = [list(stage) for stage in stages] + [last]
    layers = []
    for at, stage in enumerate(stages):
        places = {room: place for place, room in enumerate(rows[at + 1])}
        layers.append([
            (place, places[after], label, cost)
            for place, steps in enumerate(stage.values()) for label, after, cost in steps
        ])
    return (tuple([len(row) for row in rows]), layers)


def trellis_through(stages):
    """The trellis of stages whose steps tell costs; those of the last one lead to None, the only room behind it."""
    widths, layers = layers_through(stages, [None])
    return ("trellis", widths, layers, (0,))
