"""Frames that are heard: their place, turn and line, their runs, their words and their message."""

from heardtrue.errors import ShapeError
from heardtrue.frames import message_of, sent_symbols
from heardtrue.lines import reach, turned_line
from heardtrue.openings import find
from heardtrue.runs import hear_run
from heardtrue.symbols import numbers_in
from heardtrue.words import mend


def hear(link, samples):
    """The answer to samples, and its paper, or None if the frame is refused."""
    found, verdicts, papers = heard_runs(link, samples, hear_run)
    tries = [
        mend(link.code, heard, gaps) for heard, gaps in zip(heard_words(link, verdicts), gaps_of(link, verdicts))
    ]
    words = [None if mended is None else mended[0] for mended in tries]
    return answered(link, words, ("frame", found, papers, words))


def heard_runs(link, samples, hear_one):
    """The triple that is found, the verdicts on the runs, and their papers, as a function hears a run."""
    if len(samples) != link.many_samples():
        raise ShapeError("samples")
    found = found_in(link, samples)
    line = line_found(link, found)
    told = [hear_one(link.sender, line, link.blocks(), window) for window in windows(link, found, samples)]
    return (found, [verdict for verdict, _ in told], [paper for _, paper in told])


def answered(link, words, paper):
    """The answer to a frame with these words, None for those that are not found; and its paper, or None."""
    if None in words:
        return (("refused", "word", words.index(None)), None)
    message = message_of(link, words)
    if isinstance(message, list):
        return (("heard", message), paper)
    return (("refused", message, 0), None)


def found_in(link, samples):
    """The place, the turn and the number of the line that the opening tells."""
    return find(link.opening, link.lines, link.slack, samples)


def line_found(link, found):
    """The line that was found, turned."""
    _, turn, number = found
    return turned_line(link.lines[number], turn)


def windows(link, found, samples):
    """The samples of each run."""
    starts = [found[0] + link.run_start(run) for run in range(link.runs)]
    many = link.run_points() + reach(link.lines[found[2]])
    return [samples[start:start + many] for start in starts]


def heard_words(link, verdicts):
    """The rows of symbols that the verdicts on the runs tell for the words, the first row of a tie counting."""
    row = [bit for verdict in verdicts for bit in verdict[1]]
    words = [[0] * link.code[3] for _ in range(link.words)]
    told = numbers_in(row[:link.sent_bits()], link.code[1])
    for symbol, (word, place, _) in zip(told, sent_symbols(link)):
        words[word][place] = symbol
    return words


def gaps_of(link, verdicts):
    """For each word the ascending places of which some bit was sent in a run with a tie."""
    gaps = [[] for _ in range(link.words)]
    for word, place, runs in sent_symbols(link):
        if any([verdicts[run][0] == "tie" for run in runs]):
            gaps[word].append(place)
    return [sorted(places) for places in gaps]
