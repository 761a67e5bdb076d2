"""Lines that are learnt: which one of a box is the nearest to what came of points that both ends know."""

from heardtrue.errors import ShapeError
from heardtrue.forms import Form, taps_of
from heardtrue.kinds import is_between, is_tuple_between

MOST_POINTS = 40
MOST_PART = 1000
MOST_TAPS = 4
MOST_BOUND = 50


def check_known(points, taps, bound):
    """Raises ShapeError with the first name that applies to things of any kind."""
    if not are_known(points):
        raise ShapeError("known")
    if not is_between(taps, 1, MOST_TAPS):
        raise ShapeError("taps")
    if not is_between(bound, 1, MOST_BOUND):
        raise ShapeError("bound")


def are_known(thing):
    """True for a tuple of points that both ends can know."""
    if not isinstance(thing, tuple) or not is_between(len(thing), 1, MOST_POINTS):
        return False
    if not all([is_tuple_between(point, 2, -MOST_PART, MOST_PART) for point in thing]):
        return False
    return any([point != (0, 0) for point in thing])


class Search:
    """A search for the nearest lines, whose parts of the taps lie from minus a bound to this bound."""

    def __init__(self, form, bound):
        self.form = form
        self.bound = bound
        self.cost = None
        self.found = []

    def near_values(self, k, rest, behind):
        """The values at the place k that can lead to a line that is not too dear."""
        if self.cost is None:
            return list(range(-self.bound, self.bound + 1))
        span = self.form.span(k, rest, behind, self.cost)
        if span is None:
            return []
        return list(range(max(span[0], -self.bound), min(span[1], self.bound) + 1))

    def descend(self, k, numbers, behind):
        """Looks for the least cost among the lines with these numbers behind the place k."""
        form = self.form
        rest = form.rest(k, numbers)
        lead = form.divisors[k + 1]
        # The nearest values come first: so a line that is near is soon found, and most others are never looked at.
        for value in sorted(self.near_values(k, rest, behind), key=lambda told: abs(lead * told + rest)):
            measure = form.measure(k, value, rest, behind)
            if self.cost is not None and measure >= self.cost * form.divisors[k]:
                break
            if k > 0:
                self.descend(k - 1, [value] + numbers, measure)
            elif any([value] + numbers):
                self.cost = measure

    def tree(self, k, numbers, behind):
        """The tree for the place k and the numbers behind it; notes the lines that have the least cost."""
        rest = self.form.rest(k, numbers)
        taken = self.near_values(k, rest, behind)
        if len(taken) == 0:
            return [("cut", -self.bound, self.bound)]
        parts = [("cut", -self.bound, taken[0] - 1)] if taken[0] > -self.bound else []
        for value in taken:
            longer = [value] + numbers
            inner = None
            if k > 0:
                inner = self.tree(k - 1, longer, self.form.measure(k, value, rest, behind))
            elif any(longer):
                self.found.append(taps_of(longer))
            parts.append(("take", value, inner))
        return parts + ([("cut", taken[-1] + 1, self.bound)] if taken[-1] < self.bound else [])

    def whole(self):
        """The whole tree, once the least cost is known."""
        last = self.form.many - 1
        self.descend(last, [], self.form.least_measure())
        return self.tree(last, [], self.form.least_measure())


def learn(points, taps, bound, samples):
    """The verdict on samples, and a paper that shows it; two times None if the samples do not tell lines apart."""
    form = Form(points, taps, samples)
    if not form.tells_apart():
        return (None, None)
    search = Search(form, bound)
    tree = search.whole()
    nearest = sorted(search.found)
    if len(nearest) == 1:
        return (("line", nearest[0], search.cost), ("line", nearest[0], tree))
    return (("tie", nearest[0], nearest[1], search.cost), ("tie", nearest[0], nearest[1], tree))


def line_distance(points, taps, bound):
    """The distance of the lines of a box, and the least difference of the taps of two lines that has it."""
    # What two lines make of the points differs by what the difference of their taps makes of them.
    search = Search(Form(points, taps, [(0, 0)] * (len(points) + taps - 1)), 2 * bound)
    search.whole()
    return (search.cost, min(search.found))
