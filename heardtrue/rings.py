"""Rings: runs without a tail, whose rows lead the sender back to the state in which it begins."""

from heardtrue.errors import ShapeError
from heardtrue.kinds import is_between, is_list, is_named
from heardtrue.lines import cost, reach, sent
from heardtrue.potentials import are_right, cost_of_any, gap_of, least_end, potentials_of
from heardtrue.senders import block, labels_in, sizes
from heardtrue.smears import Rooms, no_lasts, outward, paid_trellis, windows_of
from heardtrue.symbols import row_for
from heardtrue.trellises import apart, grown, two_best


def ring_samples(sender, line, state, row):
    """The samples of a ring."""
    labels = labels_in(sender, row)
    here = state
    points = []
    for label in labels:
        here, more = block(sender, here, label)
        points.extend(more)
    if len(labels) == 0 or here != state:
        raise ShapeError("ring")
    return sent(line, points)


def check_size(sender, line, blocks, samples):
    """Raises ShapeError if samples are not as many as those of a ring."""
    _, points = sizes(sender)
    if len(samples) != blocks * points + reach(line):
        raise ShapeError("samples")


def trellis_from(rooms, windows, state):
    """The trellis of the rings of a state, for the samples of the blocks and of the silence."""
    line = rooms.line
    stages, last = grown((state, no_lasts(line)), [None] * (len(windows) - 1), rooms.steps)
    return paid_trellis(
        stages, last, lambda at, clear: cost(windows[at], clear),
        lambda room: outward(line, room[1]) if room[0] == state else None)


def ring_trellis(sender, line, blocks, samples, state):
    """The trellis of the rings of a state."""
    check_size(sender, line, blocks, samples)
    return trellis_from(Rooms(sender, line), windows_of(sender, samples, blocks), state)


def ring_trellises(sender, line, blocks, samples):
    """The trellises of the rings of all states."""
    check_size(sender, line, blocks, samples)
    rooms = Rooms(sender, line)
    windows = windows_of(sender, samples, blocks)
    return [trellis_from(rooms, windows, state) for state in range(len(sender[1][3]))]


def row_in(sender, labels):
    """The bits of a ring, by the labels of a path, of which the last one is that of the silence."""
    bits, _ = sizes(sender)
    return row_for(labels[:-1], bits)


def others_of(trellises, state, labels):
    """The trellises with that of one state apart from a path."""
    return [apart(trellis, labels) if at == state else trellis for at, trellis in enumerate(trellises)]


def least_of(trellises, tables):
    """The least of all least ends, or None."""
    leasts = [least_end(trellis, table) for trellis, table in zip(trellises, tables)]
    return min([least for least in leasts if least is not None], default=None)


def hear_ring(sender, line, blocks, samples):
    """The verdict on samples, and a paper that is taken for it; two times None if there is no ring."""
    trellises = ring_trellises(sender, line, blocks, samples)
    ranked = sorted([
        (spent, state, labels) for state, trellis in enumerate(trellises) for labels, spent in two_best(trellis)
    ])
    if len(ranked) == 0:
        return (None, None)
    spent, state, labels = ranked[0]
    bits = row_in(sender, labels)
    if len(ranked) > 1 and ranked[1][0] == spent:
        _, other, others = ranked[1]
        verdict = ("tie", state, bits, other, row_in(sender, others), spent)
        return (verdict, ("tie", state, labels, other, others, [potentials_of(trellis) for trellis in trellises]))
    gap = ranked[1][0] - spent if len(ranked) > 1 else None
    tables = [potentials_of(trellis) for trellis in others_of(trellises, state, labels)]
    return (("row", state, bits, spent, gap), ("one", state, labels, tables))


def check_ring(sender, line, blocks, samples, paper):
    """The verdict that a thing of any kind shows if it is a paper that is taken, or None."""
    trellises = ring_trellises(sender, line, blocks, samples)
    if is_named(paper, "one", 4):
        return shown_ring(sender, trellises, paper[1], paper[2], paper[3])
    if is_named(paper, "tie", 6):
        return shown_rings(sender, trellises, paper)
    return None


def are_all_right(trellises, tables):
    """True if a thing of any kind is a list with right potentials for each trellis."""
    return is_list(tables, len(trellises)) and all([are_right(*both) for both in zip(trellises, tables)])


def ring_cost(trellises, state, labels):
    """The cost of a ring, or None if two things of any kind are no state and no labels of one."""
    if not is_between(state, 0, len(trellises) - 1):
        return None
    return cost_of_any(trellises[state], labels)


def shown_ring(sender, trellises, state, labels, tables):
    """The verdict that a paper of one ring shows, or None."""
    spent = ring_cost(trellises, state, labels)
    if spent is None:
        return None
    others = others_of(trellises, state, labels)
    if not are_all_right(others, tables):
        return None
    least = least_of(others, tables)
    if least is not None and least <= spent:
        return None
    return ("row", state, row_in(sender, labels), spent, gap_of(least, spent))


def shown_rings(sender, trellises, paper):
    """The verdict that a paper of a tie shows, or None."""
    _, state, labels, other, others, tables = paper
    spent = ring_cost(trellises, state, labels)
    if spent is None or ring_cost(trellises, other, others) != spent or not (state, labels) < (other, others):
        return None
    if not are_all_right(trellises, tables) or least_of(trellises, tables) != spent:
        return None
    return ("tie", state, row_in(sender, labels), other, row_in(sender, others), spent)
