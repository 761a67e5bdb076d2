"""Potentials of trellises, and the papers that show with them which path is the best one."""

from heardtrue.kinds import is_integer, is_tuple, is_word
from heardtrue.trellises import apart, best_path, cost_of


def potentials_of(trellis):
    """The greatest potentials that are right."""
    _, widths, layers, _ = trellis
    table = [[0] + [None] * (widths[0] - 1)]
    for layer, width in zip(layers, widths[1:]):
        table.append(row_behind(table[-1], layer, width))
    return table


def row_behind(row, layer, width):
    """The greatest potentials of the rooms behind a layer, by those ahead of it."""
    behind = [None] * width
    for room, after, _, cost in layer:
        if row[room] is not None:
            spent = row[room] + cost
            if behind[after] is None or spent < behind[after]:
                behind[after] = spent
    return behind


def are_right(trellis, table):
    """True if a thing of any kind is right potentials of a trellis."""
    _, widths, layers, _ = trellis
    if not is_table(table, widths) or table[0][0] != 0:
        return False
    return all([is_bounded(layer, table[at], table[at + 1]) for at, layer in enumerate(layers)])


def is_table(thing, widths):
    """True for a list with a list for each time, with an integer or None for each room."""
    if not isinstance(thing, list) or len(thing) != len(widths):
        return False
    return all([is_row(row, width) for row, width in zip(thing, widths)])


def is_row(thing, width):
    """True for a list with an integer or None for each of so many rooms."""
    if not isinstance(thing, list) or len(thing) != width:
        return False
    return all([item is None or is_integer(item) for item in thing])


def is_bounded(layer, row, behind):
    """True if each edge from a room with an integer leads to one whose integer is not greater than the sum."""
    for room, after, _, cost in layer:
        if row[room] is not None:
            if behind[after] is None or behind[after] > row[room] + cost:
                return False
    return True


def least_end(trellis, table):
    """The least integer at the ends, or None."""
    last = table[-1]
    return min([last[end] for end in trellis[3] if last[end] is not None], default=None)


def shown_and_paper(trellis):
    """What the paper of a trellis shows, and this paper; both are None if there is no path."""
    best = best_path(trellis)
    if best is None:
        return (None, None)
    labels, cost = best
    others = apart(trellis, labels)
    table = potentials_of(others)
    least = least_end(others, table)
    if least == cost:
        other, _ = best_path(others)
        return (("tie", list(labels), list(other), cost), ("tie", labels, other, potentials_of(trellis)))
    return (("one", list(labels), cost, gap_of(least, cost)), ("one", labels, table))


def gap_of(least, cost):
    """By how much the least end of the others is greater than a cost, or None if there are no others."""
    return None if least is None else least - cost


def paper_of(trellis):
    """A paper of the best path, or of a tie, or None if there is no path."""
    _, paper = shown_and_paper(trellis)
    return paper


def check_paper(trellis, paper):
    """What a thing of any kind shows if it is a paper that is taken, or None."""
    if is_tuple(paper, 3) and is_word(paper[0], "one"):
        return shown_one(trellis, paper[1], paper[2])
    if is_tuple(paper, 4) and is_word(paper[0], "tie"):
        return shown_tie(trellis, paper[1], paper[2], paper[3])
    return None


def cost_of_any(trellis, thing):
    """The cost of a path, or None if a thing of any kind is none."""
    if not isinstance(thing, list) or not all([is_integer(label) for label in thing]):
        return None
    return cost_of(trellis, thing)


def shown_one(trellis, labels, table):
    """What a paper of one path shows, or None."""
    cost = cost_of_any(trellis, labels)
    if cost is None:
        return None
    others = apart(trellis, labels)
    if not are_right(others, table):
        return None
    least = least_end(others, table)
    if least is not None and least <= cost:
        return None
    return ("one", list(labels), cost, gap_of(least, cost))


def shown_tie(trellis, labels, other, table):
    """What a paper of a tie shows, or None."""
    cost = cost_of_any(trellis, labels)
    if cost is None or cost_of_any(trellis, other) != cost or not labels < other:
        return None
    if not are_right(trellis, table) or least_end(trellis, table) != cost:
        return None
    return ("tie", list(labels), list(other), cost)
