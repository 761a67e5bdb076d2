"""Frames that are heard by weighing: how sure each run is plays a part in how its symbols are mended."""

from heardtrue.audits import shown_message, shown_verdicts
from heardtrue.budgets import run_budget, touches
from heardtrue.distances import distance
from heardtrue.frames import sent_symbols
from heardtrue.hearing import answered, heard_runs, heard_words
from heardtrue.kinds import is_named
from heardtrue.potentials import cost_of_any, shown_and_paper, shown_one, shown_tie
from heardtrue.runs import verdict_of
from heardtrue.smears import trellis_of
from heardtrue.trellises import apart, best_path
from heardtrue.words import is_word, mend


def shown_and_exact(trellis):
    """What the exact paper of a trellis shows, and this paper; both are None if there is no path."""
    shown, paper = shown_and_paper(trellis)
    if shown is None or shown[0] == "tie":
        return (shown, paper)
    _, labels, table = paper
    second = best_path(apart(trellis, labels))
    return (shown, ("exact", labels, None if second is None else second[0], table))


def exact_paper(trellis):
    """An exact paper of the best path, or of a tie, or None if there is no path."""
    _, paper = shown_and_exact(trellis)
    return paper


def check_exact(trellis, paper):
    """What a thing of any kind shows if it is an exact paper that is taken, or None."""
    if is_named(paper, "exact", 4):
        return shown_exact(trellis, paper[1], paper[2], paper[3])
    if is_named(paper, "tie", 4):
        return shown_tie(trellis, paper[1], paper[2], paper[3])
    return None


def shown_exact(trellis, labels, second, table):
    """What an exact paper of one path shows, or None."""
    shown = shown_one(trellis, labels, table)
    if shown is None:
        return None
    _, _, cost, gap = shown
    if gap is None:
        return shown if second is None else None
    # A path that costs more is another one.
    return shown if cost_of_any(trellis, second) == cost + gap else None


def weight(code, most, heard, sure, word):
    """The weight of a word."""
    spent = 0
    for place in range(code[3]):
        lack = (most - sure[place]) * (most - sure[place])
        spent += lack if word[place] == heard[place] else 2 * most * most - lack
    return spent


def is_weighed(code, most, heard, sure, word):
    """True if a thing of any kind is a word that is weighed in."""
    if not is_word(code, word):
        return False
    return weight(code, most, heard, sure, word) < (code[3] - code[4] + 1) * most * most


def weigh(code, most, heard, sure):
    """The word that is weighed in, or None."""
    order = sorted(range(code[3]), key=lambda place: (sure[place], place))
    for many in range(code[3] - code[4] + 1):
        # A cut between equally sure symbols lets in no word that is not let in at another cut, too.
        if many > 0 and sure[order[many]] == sure[order[many - 1]]:
            continue
        mended = mend(code, heard, sorted(order[:many]))
        if mended is not None and is_weighed(code, most, heard, sure, mended[0]):
            return mended[0]
    return None


def hear_weighed(link, samples):
    """The answer to samples by weighing, and its paper, or None if the frame is refused."""
    found, verdicts, papers = heard_runs(link, samples, hear_exact)
    most = distance_over(link, found)
    words = [
        weigh(link.code, most, heard, sure)
        for heard, sure in zip(heard_words(link, verdicts), sure_words(link, most, verdicts))
    ]
    return answered(link, words, ("weighed", found, papers, words))


def distance_over(link, found):
    """The distance of the runs over the line that is found; its turn plays no part."""
    return distance(link.sender, link.lines[found[2]], link.blocks())


def hear_exact(sender, line, blocks, samples):
    """The verdict on the samples of a run, and an exact paper of it."""
    shown, paper = shown_and_exact(trellis_of(sender, line, blocks, samples))
    return (verdict_of(sender, blocks, shown), paper)


def check_exact_run(sender, line, blocks, samples, paper):
    """The verdict that a thing of any kind shows if it is an exact paper of a run that is taken, or None."""
    shown = check_exact(trellis_of(sender, line, blocks, samples), paper)
    return None if shown is None else verdict_of(sender, blocks, shown)


def sure_run(most, verdict):
    """How sure a run is, at most a number."""
    if verdict[0] == "tie":
        return 0
    return most if verdict[3] is None else min(most, verdict[3])


def sure_words(link, most, verdicts):
    """For each word how sure its symbols are."""
    runs_sure = [sure_run(most, verdict) for verdict in verdicts]
    words = [[most] * link.code[3] for _ in range(link.words)]
    for word, place, runs in sent_symbols(link):
        words[word][place] = min([runs_sure[run] for run in runs])
    return words


def audit_weighed(link, samples, paper):
    """The message that a thing of any kind shows if it is a paper of a frame by weighing that is taken, or None."""
    verdicts = shown_verdicts(link, samples, paper, "weighed", check_exact_run)
    if verdicts is None:
        return None
    most = distance_over(link, paper[1])
    told = list(zip(heard_words(link, verdicts), sure_words(link, most, verdicts), paper[3]))
    if not all([is_weighed(link.code, most, heard, sure, word) for heard, sure, word in told]):
        return None
    return shown_message(link, paper[3])


def is_spread(link):
    """True if each run touches each word at most once."""
    return all([many <= 1 for hits in touches(link) for many in hits])


def frame_budget(link):
    """How much the noise of all runs together may be, or None if the link is not spread."""
    if not is_spread(link):
        return None
    return (link.code[3] - link.code[4] + 1) * run_budget(link)
