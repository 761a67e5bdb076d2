"""Papers of lines that were learnt, and what they show to anybody who has the samples."""

from heardtrue.forms import Form, numbers_of
from heardtrue.kinds import is_between, is_named, is_tuple, is_tuple_between
from heardtrue.lines import cost, sent


class Claim:
    """What a paper says: that no line of a box is nearer than those that are told, or as near if only one is told."""

    def __init__(self, form, bound, told, spent):
        self.form = form
        self.bound = bound
        self.told = [numbers_of(taps) for taps in told]
        self.spent = spent
        self.least_beside = spent + 1 if len(told) == 1 else spent

    def holds(self, k, numbers, behind, tree):
        """True if a thing of any kind is a tree that shows this for the place k and the numbers behind it."""
        if not isinstance(tree, list):
            return False
        rest = self.form.rest(k, numbers)
        value = -self.bound
        for part in tree:
            if is_named(part, "cut", 3) and self.is_cut(part, value, self.form.span(k, rest, behind, self.spent)):
                value = part[2] + 1
            elif is_named(part, "take", 3) and is_between(part[1], value, value) and value <= self.bound:
                longer = [value] + numbers
                if not self.is_taken(k, longer, self.form.measure(k, value, rest, behind), part[2]):
                    return False
                value += 1
            else:
                return False
        return value == self.bound + 1

    def is_cut(self, part, value, span):
        """True if a part cuts off the next values, and none of them has a bound that is not too great."""
        _, first, last = part
        if not is_between(first, value, value) or not is_between(last, first, self.bound):
            return False
        return span is None or last < span[0] or first > span[1]

    def is_taken(self, k, numbers, measure, tree):
        """True if a tree shows what it must for the place k - 1; behind the place 0 it is None."""
        if k > 0:
            return self.holds(k - 1, numbers, measure, tree)
        return tree is None and (not any(numbers) or numbers in self.told or measure >= self.least_beside)


def is_in_box(thing, taps, bound):
    """True for the taps of a line of the box."""
    if not is_tuple(thing, taps) or not all([is_tuple_between(tap, 2, -bound, bound) for tap in thing]):
        return False
    return any(numbers_of(thing))


def told_by(paper):
    """The taps of the lines that a thing of any kind tells as a paper, in a list; of none if it is no paper."""
    if is_named(paper, "line", 3):
        return [paper[1]]
    return [paper[1], paper[2]] if is_named(paper, "tie", 4) else []


def check_learnt(points, taps, bound, samples, paper):
    """The verdict that a thing of any kind shows if it is a paper that is taken, or None."""
    form = Form(points, taps, samples)
    told = told_by(paper)
    if not form.tells_apart() or len(told) == 0 or not all([is_in_box(line, taps, bound) for line in told]):
        return None
    costs = [cost(samples, sent(("line", line), list(points))) for line in told]
    if len(told) == 2 and (not told[0] < told[1] or costs[0] != costs[1]):
        return None
    if not Claim(form, bound, told, costs[0]).holds(form.many - 1, [], form.least_measure(), paper[-1]):
        return None
    return (paper[0], *told, costs[0])
