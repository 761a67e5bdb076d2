"""Papers of frames, and what they show to anybody who has the samples."""

from heardtrue.frames import message_of
from heardtrue.hearing import found_in, gaps_of, heard_words, line_found, windows
from heardtrue.kinds import is_integer, is_list, is_named, is_tuple
from heardtrue.runs import check_run
from heardtrue.words import is_mended


def audit(link, samples, paper):
    """The message that a thing of any kind shows if it is a paper of a frame that is taken, or None."""
    verdicts = shown_verdicts(link, samples, paper, "frame", check_run)
    if verdicts is None:
        return None
    told = list(zip(heard_words(link, verdicts), gaps_of(link, verdicts), paper[3]))
    if not all([is_mended(link.code, heard, gaps, word) for heard, gaps, word in told]):
        return None
    return shown_message(link, paper[3])


def shown_verdicts(link, samples, paper, name, check):
    """The verdicts on the runs that a thing of any kind shows, or None.

    It must be a paper with this name, the triple that is found, papers of the runs for which a function tells verdicts,
    and a list of as many things as there are words.
    """
    if not is_named(paper, name, 4) or not is_found(link, samples, paper[1]):
        return None
    _, found, runs, words = paper
    return shown_runs(link, samples, found, runs, check) if is_list(words, link.words) else None


def is_found(link, samples, thing):
    """True if the samples are as many as they must be, and a thing of any kind is the triple that is found in them."""
    if len(samples) != link.many_samples() or not is_tuple(thing, 3) or not all([is_integer(part) for part in thing]):
        return False
    return thing == found_in(link, samples)


def shown_runs(link, samples, found, papers, check):
    """What a function finds that the papers of the runs show, or None if they are not all taken."""
    if not is_list(papers, link.runs):
        return None
    line = line_found(link, found)
    shown = []
    for window, paper in zip(windows(link, found, samples), papers):
        verdict = check(link.sender, line, link.blocks(), window, paper)
        if verdict is None:
            return None
        shown.append(verdict)
    return shown


def shown_message(link, words):
    """The message that words tell, or None if they tell none."""
    message = message_of(link, words)
    return message if isinstance(message, list) else None
