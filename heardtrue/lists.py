"""Lists of rows: all paths of a trellis that cost at most a number, with papers that show that these are all."""

from heapq import heappop, heappush

from heardtrue.kinds import is_named
from heardtrue.potentials import are_right, cost_of_any, least_end, potentials_of
from heardtrue.senders import sizes
from heardtrue.smears import trellis_of
from heardtrue.symbols import row_for
from heardtrue.trellises import is_ascending


def by_rooms(layer):
    """A dict from rooms to their edges in a layer, in order."""
    edges = {}
    for edge in layer:
        edges.setdefault(edge[0], []).append(edge)
    return edges


def ways_on(trellis):
    """The least cost of a path, or None, and for each layer a dict from rooms to the ways on from them, in order.

    A way on is by how much the best path that goes so costs more than the best one from the room, the label, and the
    next room.
    """
    _, _, layers, ends = trellis
    costs = {end: 0 for end in ends}
    ways = []
    for layer in reversed(layers):
        here = {}
        ways_here = {}
        for room, edges in by_rooms(layer).items():
            told = [(cost + costs[after], label, after) for _, after, label, cost in edges if after in costs]
            if len(told) > 0:
                here[room] = min(told)[0]
                ways_here[room] = [(spent - here[room], label, after) for spent, label, after in sorted(told)]
        costs = here
        ways.append(ways_here)
    ways.reverse()
    return (costs.get(0, None), ways)


def limit_for(least, ways, many):
    """A cost that so many paths at least do not go beyond, or None if none is found so."""
    costs = [least]
    room = 0
    # Paths that leave the best one at different places, or with different labels there, are different ones.
    for here in ways:
        costs.extend([least + more for more, _, _ in here[room][1:]])
        room = here[room][0][2]
    return sorted(costs)[many - 1] if len(costs) >= many else None


def first_paths(least, ways, many, limit):
    """The first paths, at most so many, of those that cost at most a limit, or of all if it is None."""
    queue = [(least, (), 0)] if limit is None or least <= limit else []
    found = []
    while len(queue) > 0 and len(found) < many:
        # The best path that begins with these labels; no two entries have a path in common.
        spent, stem, room = heappop(queue)
        labels = list(stem)
        for here in ways[len(stem):]:
            for more, label, after in here[room][1:]:
                if limit is not None and spent + more > limit:
                    break
                heappush(queue, (spent + more, (*labels, label), after))
            _, label, room = here[room][0]
            labels.append(label)
        found.append((labels, spent))
    return found


def best_paths(trellis, many):
    """The first paths, at most so many, with their costs."""
    least, ways = ways_on(trellis)
    return [] if least is None else first_paths(least, ways, many, limit_for(least, ways, many))


def paths_within(trellis, cost, most):
    """All paths that cost at most a number, with their costs, or None if there are more than so many."""
    least, ways = ways_on(trellis)
    found = [] if least is None else first_paths(least, ways, most + 1, cost)
    return None if len(found) > most else found


def stems_of(paths, many):
    """For each time a dict from the stems of this length, ascending, to their numbers."""
    rows = [sorted({tuple(path[:length]) for path in paths}) for length in range(many + 1)]
    return [{stem: number for number, stem in enumerate(row)} for row in rows]


def apart_from(trellis, paths):
    """The trellis with the same paths but these, which are different ones."""
    _, widths, layers, ends = trellis
    if len(paths) == 0:
        return ("trellis", widths, [list(layer) for layer in layers], ends)
    stems = stems_of(paths, len(layers))
    # Behind the other rooms of a time stand those for the stems.
    wider = [1] + [width + len(row) for width, row in zip(widths[1:], stems[1:])]
    rooms = {(): 0}
    left = []
    for at, layer in enumerate(layers):
        edges = by_rooms(layer)
        here = 0 if at == 0 else widths[at]
        onward = []
        behind = {}
        for number, stem in enumerate(stems[at]):
            for _, after, label, cost in edges[rooms[stem]]:
                longer = (*stem, label)
                inner = longer in stems[at + 1]
                behind[longer] = after
                onward.append((here + number, widths[at + 1] + stems[at + 1][longer] if inner else after, label, cost))
        rooms = behind
        left.append(onward if at == 0 else layer + onward)
    return ("trellis", tuple(wider), left, ends if len(layers) > 0 else ())


def paper_with(trellis, paths):
    """The paper with these paths and the greatest right potentials."""
    return ("list", paths, potentials_of(apart_from(trellis, paths)))


def list_paper(trellis, cost, most):
    """The paper of all paths that cost at most a number, or None if there are more than so many."""
    found = paths_within(trellis, cost, most)
    return None if found is None else paper_with(trellis, [labels for labels, _ in found])


def check_list(trellis, cost, paper):
    """The paths that a thing of any kind shows to be all that cost at most a number, if it is taken, or None."""
    if not is_named(paper, "list", 3) or not isinstance(paper[1], list):
        return None
    _, paths, table = paper
    costs = [cost_of_any(trellis, labels) for labels in paths]
    if None in costs or any([spent > cost for spent in costs]) or not is_ascending(list(zip(costs, paths))):
        return None
    others = apart_from(trellis, paths)
    if not are_right(others, table):
        return None
    least = least_end(others, table)
    if least is not None and least <= cost:
        return None
    return [(list(labels), spent) for labels, spent in zip(paths, costs)]


def rows_of(sender, blocks, paths):
    """The rows of the blocks of paths, with their costs."""
    bits, _ = sizes(sender)
    return [(row_for(labels[:blocks], bits), spent) for labels, spent in paths]


def hear_list(sender, line, blocks, samples, *, cost, most):
    """All rows of a run that cost at most a number, and a paper of them; two times None if there are too many."""
    trellis = trellis_of(sender, line, blocks, samples)
    found = paths_within(trellis, cost, most)
    if found is None:
        return (None, None)
    return (rows_of(sender, blocks, found), paper_with(trellis, [labels for labels, _ in found]))


def check_heard(sender, line, blocks, samples, *, cost, paper):
    """The rows that a thing of any kind shows to be all that cost at most a number, if it is taken, or None."""
    shown = check_list(trellis_of(sender, line, blocks, samples), cost, paper)
    return None if shown is None else rows_of(sender, blocks, shown)
