"""How far apart the runs of different rows are at least, with papers that show it."""

from heardtrue.kinds import is_list_between, is_named
from heardtrue.pairs import Pairs, differences, least_distance
from heardtrue.points import plus, total
from heardtrue.potentials import are_right, least_end, potentials_of
from heardtrue.runs import run_samples
from heardtrue.senders import sizes
from heardtrue.symbols import row_for
from heardtrue.trellises import best_path


def pair_trellis(sender, line, blocks):
    """The trellis of pairs."""
    return Pairs([(sender, line)]).trellis(blocks)


def least_of(sender, line, blocks):
    """A trellis of pairs with the same best path and the same right potentials, but with fewer edges."""
    return Pairs([(sender, line)]).least_trellis(blocks)


def squared_distance(sender, line, row, other):
    """The squared distance of two rows of one number of blocks."""
    return total(differences(run_samples(sender, line, row), run_samples(sender, line, other)))


def pair_on(sender, trellis, blocks):
    """The cost and the two rows of the best path of a trellis of pairs, or None if there is no path."""
    best = best_path(trellis)
    if best is None:
        return None
    labels, cost = best
    bits, _ = sizes(sender)
    row, other = rows_of_pairs(labels[:blocks], bits)
    return (cost, row, other)


def rows_of_pairs(labels, bits):
    """The two rows whose blocks of so many bits are told by the labels of pairs."""
    sides = [divmod(label, 1 << bits) for label in labels]
    return (row_for([one for one, _ in sides], bits), row_for([other for _, other in sides], bits))


def nearest_pair(sender, line, blocks):
    """The distance and the two rows of the best path of the trellis of pairs, or None for no blocks."""
    return pair_on(sender, least_of(sender, line, blocks), blocks)


def distance(sender, line, blocks):
    """The distance, or None for no blocks."""
    return least_distance(Pairs([(sender, line)]), blocks)


def distance_paper(sender, line, blocks):
    """A paper of the distance, or None for no blocks."""
    trellis = least_of(sender, line, blocks)
    nearest = pair_on(sender, trellis, blocks)
    if nearest is None:
        return None
    return ("pair", nearest[1], nearest[2], potentials_of(trellis))


def check_distance(sender, line, blocks, paper):
    """The distance and the two rows that a thing of any kind shows if it is a paper that is taken, or None."""
    if not is_named(paper, "pair", 4):
        return None
    _, row, other, table = paper
    bits, _ = sizes(sender)
    if not are_rows(row, other, blocks * bits):
        return None
    trellis = least_of(sender, line, blocks)
    least = squared_distance(sender, line, row, other)
    if not are_right(trellis, table) or least_end(trellis, table) != least:
        return None
    return (least, list(row), list(other))


def are_rows(row, other, many):
    """True if two things of any kind are rows of so many bits, the first one less than the other one."""
    return is_list_between(row, many, 0, 1) and is_list_between(other, many, 0, 1) and row < other


def halfway(sender, line, row, other):
    """The samples half-way between two rows of one number of whole blocks."""
    sums = [plus(*both) for both in zip(run_samples(sender, line, row), run_samples(sender, line, other))]
    return [(x // 2, y // 2) for x, y in sums]
