"""Budgets: how much noise a frame bears, and how many of its runs may be spoiled in any way."""

from heardtrue.distances import distance
from heardtrue.frames import sent_symbols
from heardtrue.openings import separation


def run_budget(link):
    """The least distance of the rows of a run over the lines of a link."""
    return min([distance(link.sender, line, link.blocks()) for line in link.lines])


def opening_budget(link):
    """The separation of the opening."""
    return separation(link.opening, link.lines, link.slack)


def touches(link):
    """For each word how many of its symbols each run touches."""
    hits = [[0] * link.runs for _ in range(link.words)]
    for word, _, runs in sent_symbols(link):
        for run in runs:
            hits[word][run] += 1
    return hits


def spare_runs(link):
    """The most runs that may be spoiled in any way, whichever they are."""
    return min([spare_for(hits, link.code[3] - link.code[4]) for hits in touches(link)])


def spare_for(hits, most):
    """The most runs of which any so many touch at most half of a number of the symbols of a word."""
    spare = 0
    spent = 0
    # The runs that touch most of its symbols are the worst ones.
    for many in sorted(hits, reverse=True):
        spent += 2 * many
        if spent > most:
            break
        spare += 1
    return spare


def promise(link):
    """The budgets of the opening and of a run, and the number of spare runs."""
    return ("promise", opening_budget(link), run_budget(link), spare_runs(link))
