"""Distances of all lengths: how far apart rows are at least, however long they are."""

from heapq import heappop, heappush

from heardtrue.composing import found_from, walk_to, way_round
from heardtrue.distances import are_rows, nearest_pair, rows_of_pairs, squared_distance
from heardtrue.kinds import is_between, is_integer, is_named, is_point, is_tuple
from heardtrue.lines import reach
from heardtrue.pairs import Pairs, least_behind
from heardtrue.senders import sizes


def partings(pairs):
    """The steps by which two rows part in any states that blocks lead to: the rooms behind, and the distances."""
    states = found_from(0, lambda state: list(enumerate(pairs.nexts[state])))
    steps = []
    for state in states:
        for _, after, distance in pairs.least_steps(pairs.begin(state), None):
            if after[3]:
                steps.append((after, distance))
    return steps


def ways_of(pairs, whole):
    """The free distance, and a dict from rooms that are not together to the least distances to come there.

    They are all rooms that can be come to without being together on the way, or only those that are found ahead of
    the free distance.
    """
    queue = []
    for after, distance in partings(pairs):
        heappush(queue, (distance, after))
    costs = {}
    free = None
    while len(queue) > 0 and (whole or free is None):
        spent, room = heappop(queue)
        if pairs.is_together(room):
            free = spent if free is None else free
        elif room not in costs:
            costs[room] = spent
            for _, after, distance in pairs.least_steps(room, None):
                if after not in costs:
                    heappush(queue, (spent + distance, after))
    return (free, costs)


def free_distance(sender, line):
    """The free distance."""
    free, _ = ways_of(Pairs([(sender, line)]), False)
    return free


def least_blocks(pairs, free):
    """The least number of blocks whose distance is the free one."""
    costs = {pairs.begin(0): 0}
    blocks = 0
    while not any([room[3] and spent + pairs.home(room) == free for room, spent in costs.items()]):
        blocks += 1
        costs = least_behind(pairs, costs, free)
    return blocks


def free_paper(sender, line):
    """A paper for all lengths that is taken."""
    pairs = Pairs([(sender, line)])
    free, costs = ways_of(pairs, True)
    _, row, other = nearest_pair(sender, line, least_blocks(pairs, free))
    return ("always", row, other, sorted(costs.items()))


def check_free(sender, line, paper):
    """The free distance that a thing of any kind shows if it is a paper that is taken, or None."""
    if not is_named(paper, "always", 4):
        return None
    _, row, other, table = paper
    bits, _ = sizes(sender)
    if not isinstance(row, list) or len(row) == 0 or len(row) % bits != 0 or not are_rows(row, other, len(row)):
        return None
    told = told_rooms(sender, line, table)
    if told is None:
        return None
    free = squared_distance(sender, line, row, other)
    return free if bears(Pairs([(sender, line)]), told, free) else None


def told_rooms(sender, line, thing):
    """A dict from the rooms of a table to their integers, or None if a thing of any kind is no table."""
    if not isinstance(thing, list):
        return None
    told = {}
    for item in thing:
        if not is_tuple(item, 2) or not is_parted(sender, line, item[0]) or not is_integer(item[1]):
            return None
        told[item[0]] = item[1]
    return told if len(told) == len(thing) else None


def is_parted(sender, line, thing):
    """True if a thing of any kind is a room that has parted."""
    if not is_tuple(thing, 4) or thing[3] is not True:
        return False
    states = len(sender[1][3])
    if not is_between(thing[0], 0, states - 1) or not is_between(thing[1], 0, states - 1):
        return False
    lasts = thing[2]
    return is_tuple(lasts, 1) and is_tuple(lasts[0], reach(line)) and all([is_point(last) for last in lasts[0]])


def bears(pairs, told, free):
    """True if no way of pairs leads to a lesser distance, as the integers that are told for rooms show."""
    seen = set()
    rooms = []
    steps = partings(pairs)
    while True:
        for after, spent in steps:
            if pairs.is_together(after):
                if spent < free:
                    return False
            elif after not in told or told[after] > spent:
                return False
            elif after not in seen:
                seen.add(after)
                rooms.append(after)
        if len(rooms) == 0:
            return True
        room = rooms.pop()
        steps = [(after, told[room] + distance) for _, after, distance in pairs.least_steps(room, None)]


def ring(sender, line):
    """Two rows that part, and two ways that lead from there back to the same room for nothing, or None."""
    pairs = Pairs([(sender, line)])
    came = found_from(pairs.begin(0), lambda room: walks_of(pairs, room))
    back = {room: free_steps(pairs, room) for room in came if room[3] and not pairs.is_together(room)}
    back = trimmed_steps(back)
    for room in back:
        way = way_round(room, lambda at: back[at])
        if way is not None:
            return ("ring", *rows_of_pairs(walk_to(came, room), pairs.bits), *rows_of_pairs(way, pairs.bits))
    return None


def walks_of(pairs, room):
    """The ascending labels of pairs from a room, with the rooms behind; none if the rows are together again."""
    if room[3] and pairs.is_together(room):
        return []
    return [(label, after) for label, after, _ in pairs.class_steps(room).values()]


def free_steps(pairs, room):
    """The ascending labels of pairs that cost nothing and do not lead together, with the rooms behind."""
    steps = list(pairs.class_steps(room).values())
    return [(label, after) for label, after, spent in steps if spent == 0 and not pairs.is_together(after)]


def trimmed_steps(steps):
    """The steps of those rooms from which ways without an end begin, and between these."""
    while True:
        left = {}
        for room, ways in steps.items():
            kept = [(label, after) for label, after in ways if after in steps]
            if len(kept) > 0:
                left[room] = kept
        if len(left) == len(steps):
            return left
        steps = left


def most_parted(sender, line, cost):
    """The most blocks behind each of which two rows are not together, at distances that are at most the number."""
    pairs = Pairs([(sender, line)])
    costs = {}
    for after, distance in partings(pairs):
        if distance <= costs.get(after, cost) and not pairs.is_together(after):
            costs[after] = distance
    blocks = 0
    while len(costs) > 0:
        blocks += 1
        behind = least_behind(pairs, costs, cost)
        costs = {room: spent for room, spent in behind.items() if not pairs.is_together(room)}
    return blocks
