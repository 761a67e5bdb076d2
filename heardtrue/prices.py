"""Prices of bits: for each place of a row the least cost of a row that has a 0 there, and of one that has a 1."""

from heardtrue.kinds import is_list, is_named, is_tuple
from heardtrue.pairs import Pairs, least_home, searched, settled
from heardtrue.potentials import are_right, cost_of_any, is_bounded, is_table, potentials_of, row_behind
from heardtrue.senders import sizes
from heardtrue.smears import trellis_of


def turned_round(layer):
    """The edges of a layer that lead from the later rooms to the earlier ones."""
    return [(after, room, label, cost) for room, after, label, cost in layer]


def ahead_of(trellis):
    """The least costs from all rooms to an end; rooms from which there is no way have None."""
    _, widths, layers, ends = trellis
    table = [[0 if room in ends else None for room in range(widths[-1])]]
    for layer, width in zip(reversed(layers), widths[-2::-1]):
        table.append(row_behind(table[-1], turned_round(layer), width))
    table.reverse()
    return table


def are_right_ahead(trellis, thing):
    """True if no path from a room to an end costs less than the integer that a thing of any kind tells for the room."""
    _, widths, layers, ends = trellis
    if not is_table(thing, widths):
        return False
    if not all([thing[-1][end] is not None and thing[-1][end] <= 0 for end in ends]):
        return False
    return all([is_bounded(turned_round(layer), thing[at + 1], thing[at]) for at, layer in enumerate(layers)])


def least_edges(layer, row, behind):
    """A dict from labels to the cheapest ways over edges with them: the sum of both integers and the cost, the room,
    and the next room.
    """
    leasts = {}
    for room, after, label, cost in layer:
        if row[room] is not None and behind[after] is not None:
            way = (row[room] + cost + behind[after], room, after)
            if label not in leasts or way < leasts[label]:
                leasts[label] = way
    return leasts


def has_bit(label, bits, inner, value):
    """True if the label of a block of so many bits has a value at a place in it."""
    return (label >> (bits - 1 - inner)) & 1 == value


def cheapest(leasts, bits, inner):
    """The cheapest ways over labels that have a 0 and a 1 at a place, each with its label."""
    return [
        min([(*way, label) for label, way in leasts.items() if has_bit(label, bits, inner, value)]) for value in (0, 1)
    ]


def ways_for(sender, blocks, trellis, before, ahead):
    """For each place of the row the cheapest ways over the edges of its block, by two tables of right integers."""
    bits, _ = sizes(sender)
    ways = []
    for at in range(blocks):
        leasts = least_edges(trellis[2][at], before[at], ahead[at + 1])
        ways.extend([cheapest(leasts, bits, inner) for inner in range(bits)])
    return ways


def prices_on(ways):
    """The prices that the cheapest ways tell."""
    return [(zero[0], one[0]) for zero, one in ways]


def prices(sender, line, blocks, samples):
    """The prices of 0 and 1 for all places of the row."""
    trellis = trellis_of(sender, line, blocks, samples)
    return prices_on(ways_for(sender, blocks, trellis, potentials_of(trellis), ahead_of(trellis)))


class Walks:
    """The best paths over edges of a trellis, by two tables of the greatest right integers."""

    def __init__(self, trellis, before, ahead):
        layers = list(enumerate(trellis[2]))
        self.came = [ways_to(layer, before[at], before[at + 1]) for at, layer in layers]
        self.goes = [ways_from(layer, ahead[at], ahead[at + 1]) for at, layer in layers]

    def path(self, at, way):
        """The labels of the best path over an edge of a layer, which a cheapest way tells."""
        _, room, after, label = way
        labels = [label]
        for here in reversed(self.came[:at]):
            room, label = here[room]
            labels.append(label)
        labels.reverse()
        for here in self.goes[at + 1:]:
            label, after = here[after]
            labels.append(label)
        return labels


def ways_to(layer, row, behind):
    """A dict from the rooms behind a layer to the room and the label from which a best way comes."""
    return {
        after: (room, label) for room, after, label, cost in layer
        if row[room] is not None and row[room] + cost == behind[after]
    }


def ways_from(layer, row, behind):
    """A dict from the rooms ahead of a layer to the label and the room by which a best way goes."""
    return {
        room: (label, after) for room, after, label, cost in layer
        if behind[after] is not None and behind[after] + cost == row[room]
    }


def prices_paper(sender, line, blocks, samples):
    """A paper of the prices."""
    trellis = trellis_of(sender, line, blocks, samples)
    before, ahead = potentials_of(trellis), ahead_of(trellis)
    walks = Walks(trellis, before, ahead)
    bits, _ = sizes(sender)
    ways = ways_for(sender, blocks, trellis, before, ahead)
    rows = [
        (walks.path(place // bits, zero), walks.path(place // bits, one)) for place, (zero, one) in enumerate(ways)
    ]
    return ("prices", before, ahead, rows)


def check_prices(sender, line, blocks, samples, paper):
    """The prices that a thing of any kind shows if it is a paper that is taken, or None."""
    trellis = trellis_of(sender, line, blocks, samples)
    if not is_named(paper, "prices", 4):
        return None
    _, before, ahead, rows = paper
    bits, _ = sizes(sender)
    if not is_list(rows, blocks * bits) or not are_right(trellis, before) or not are_right_ahead(trellis, ahead):
        return None
    told = prices_on(ways_for(sender, blocks, trellis, before, ahead))
    for place, pair in enumerate(rows):
        if not is_tuple(pair, 2):
            return None
        for value, labels in enumerate(pair):
            # Only a path has a cost, and only a path has a label for the block of the place.
            if cost_of_any(trellis, labels) != told[place][value]:
                return None
            if not has_bit(labels[place // bits], bits, place % bits, value):
                return None
    return told


def parted_at(pairs, costs, mask, most):
    """The least distances to come to the rooms behind a block whose labels differ in the bit of a mask."""
    behind = {}
    for room, spent in costs.items():
        for label, after, distance in pairs.steps_of(room, None):
            one, other = pairs.sides(label)
            if (one ^ other) & mask != 0 and spent + distance <= behind.get(after, most):
                behind[after] = spent + distance
    return behind


def bit_distance(sender, line, blocks, place):
    """The least squared distance of two rows that differ at a place."""
    pairs = Pairs([(sender, line)])
    bits, _ = sizes(sender)
    mask = 1 << (bits - 1 - place % bits)

    def within(most):
        costs = settled(pairs, {pairs.begin(0): 0}, place // bits, most)
        costs = parted_at(pairs, costs, mask, most)
        return least_home(pairs, settled(pairs, costs, blocks - 1 - place // bits, most), most)

    return searched(within)
