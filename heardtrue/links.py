"""Links: all that both ends know of how frames are sent."""

from heardtrue.checks import check_check
from heardtrue.errors import ShapeError
from heardtrue.kinds import is_between, is_tuple_between
from heardtrue.lines import check_line
from heardtrue.mixing import check_mix
from heardtrue.openings import check_opening
from heardtrue.scramblers import check_scrambler
from heardtrue.senders import check_sender, sizes, tail_blocks
from heardtrue.words import check_words

# So many points (0, 0) stand behind each run, so that what a line still gives comes out.
SILENCE = 3
MOST_PART = 1000
MOST_LINES = 4
MOST_SLACK = 50
MOST_WORDS = 8
MOST_RUNS = 8
MOST_BYTES = 255


def frozen(thing):
    """The tuple of a list; any other thing as it is."""
    return tuple(thing) if isinstance(thing, list) else thing


def check_near(opening):
    """Raises ShapeError if a thing of any kind is no opening whose points have small parts."""
    check_opening(opening)
    if not all([is_tuple_between(point, 2, -MOST_PART, MOST_PART) for point in opening]):
        raise ShapeError("opening")


def check_lines(lines):
    """Raises ShapeError with the first name that applies to the lines of a link."""
    if not isinstance(lines, tuple):
        raise ShapeError("lines")
    check_number(len(lines), 1, MOST_LINES, "lines")
    for line in lines:
        check_line(line)


def check_number(thing, low, high, name):
    """Raises ShapeError with a name if a thing of any kind is no integer from low to high."""
    if not is_between(thing, low, high):
        raise ShapeError(name)


class Link:
    """A link with its fields."""

    def __init__(self, *, opening, lines, slack, sender, code, words, mix, check, scrambler, runs):
        self.opening = frozen(opening)
        self.lines = frozen(lines)
        self.slack = slack
        self.sender = sender
        self.code = code
        self.words = words
        self.mix = mix
        self.check = check
        self.scrambler = scrambler
        self.runs = runs
        self.check_all()

    def check_all(self):
        """Raises ShapeError with the first name that applies."""
        check_near(self.opening)
        check_lines(self.lines)
        check_number(self.slack, 0, MOST_SLACK, "slack")
        check_sender(self.sender)
        check_words(self.code)
        check_number(self.words, 1, MOST_WORDS, "words")
        check_mix(self.mix, self.words, self.code[3])
        check_check(self.check)
        check_scrambler(self.scrambler)
        check_number(self.runs, 1, MOST_RUNS, "runs")
        check_number(self.most_bytes(), 0, MOST_BYTES, "size")

    def told_bits(self):
        """The number of the bits that the words of a frame tell."""
        return self.words * self.code[4] * self.code[1]

    def sent_bits(self):
        """The number of the bits that the words of a frame have."""
        return self.words * self.code[3] * self.code[1]

    def most_bytes(self):
        """The most bytes of a message."""
        return (self.told_bits() - self.check[1]) // 8 - 1

    def blocks(self):
        """The number of the blocks of a run without its tail."""
        bits, _ = sizes(self.sender)
        return -(-self.sent_bits() // (self.runs * bits))

    def run_points(self):
        """The number of the points of a run with its tail."""
        _, points = sizes(self.sender)
        return (self.blocks() + tail_blocks(self.sender)) * points

    def run_start(self, run):
        """At which point of a frame a run begins."""
        return len(self.opening) + self.slack + SILENCE + run * (self.run_points() + SILENCE)

    def frame_points(self):
        """The number of the points of a frame."""
        return self.run_start(self.runs)

    def many_samples(self):
        """The number of the samples of a frame."""
        return self.slack + self.frame_points()
