"""Runs: their samples, and what is heard from samples, with a paper."""

from heardtrue.lines import sent
from heardtrue.potentials import check_paper, shown_and_paper
from heardtrue.senders import labels_in, points_for, sizes, tied
from heardtrue.smears import first_room, silence, trellis_of
from heardtrue.symbols import row_for


def run_samples(sender, line, row):
    """The samples of a row of whole blocks."""
    points = points_for(sender, tied(sender, row))
    if len(points) == 0:
        # A line makes nothing of no points, but the samples of a run have its silence.
        return silence(sender, line, first_room(line))
    return sent(line, points)


def hear_run(sender, line, blocks, samples):
    """The verdict on samples, and a paper that is taken for it."""
    shown, paper = shown_and_paper(trellis_of(sender, line, blocks, samples))
    return (verdict_of(sender, blocks, shown), paper)


def check_run(sender, line, blocks, samples, paper):
    """The verdict that a thing of any kind shows if it is a paper that is taken, or None."""
    shown = check_paper(trellis_of(sender, line, blocks, samples), paper)
    return None if shown is None else verdict_of(sender, blocks, shown)


def verdict_of(sender, blocks, shown):
    """The verdict on a run, by what a paper of its trellis shows."""
    bits, _ = sizes(sender)
    row = row_for(shown[1][:blocks], bits)
    if shown[0] == "one":
        return ("row", row, shown[2], shown[3])
    return ("tie", row, row_for(shown[2][:blocks], bits), shown[3])


def blocks_in(sender, row):
    """The number of the blocks of a row."""
    return len(labels_in(sender, row))
