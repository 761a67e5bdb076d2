"""Texts of links: how they are read, and how they are written."""

from heardtrue.errors import ReadError
from heardtrue.links import Link

DIGITS = "0123456789"
MOST_DIGITS = 6


def told_lines(text):
    """The lines of a text that count, each with its number and its words, and the number of the last line."""
    lines = text.split("\n")
    told = []
    for at, line in enumerate(lines):
        words = [word for word in line.split(" ") if word != ""]
        if len(words) > 0 and not words[0].startswith("#"):
            told.append((at + 1, words))
    return (told, len(lines))


def integer_in(word):
    """The integer that a word writes, or None."""
    digits = word.removeprefix("-")
    if digits == "" or len(digits) > MOST_DIGITS or not all([sign in DIGITS for sign in digits]):
        return None
    if digits.startswith("0") and word != "0":
        return None
    return int(word)


def point_in(word):
    """The point that a word writes, or None."""
    parts = [integer_in(part) for part in word.split(",")]
    return tuple(parts) if len(parts) == 2 and None not in parts else None


def bits_in(word):
    """The tuple of the bits that a word writes, or None."""
    if word == "" or not all([sign in "01" for sign in word]):
        return None
    return tuple([int(sign) for sign in word])


def choice_in(word):
    """The next state and the bits given that a word writes for a choice, or None."""
    state, _, given = word.partition(":")
    parts = (integer_in(state), bits_in(given))
    return None if None in parts else parts


class Reader:
    """Reads the lines of a link, one behind the other."""

    def __init__(self, text):
        self.lines, self.last = told_lines(text)
        self.at = 0

    def is_next(self, name):
        """True if the next line has this name."""
        return self.at < len(self.lines) and self.lines[self.at][1][0] == name

    def take(self, name, told, sizes):
        """What a function tells of the words of the next line, which has a name and one of some numbers of words."""
        if self.at == len(self.lines):
            raise ReadError(self.last)
        number, words = self.lines[self.at]
        parts = [told(word) for word in words[1:]]
        if words[0] != name or None in parts or len(parts) == 0 or (sizes is not None and len(parts) not in sizes):
            raise ReadError(number)
        self.at += 1
        return parts

    def take_integers(self, name, many):
        """The integers of the next line, so many."""
        return self.take(name, integer_in, (many,))

    def take_points(self, name):
        """The tuple of the points of the next line."""
        return tuple(self.take(name, point_in, None))

    def take_lines(self):
        """The lines of the link."""
        told = [("line", self.take_points("line"))]
        while self.is_next("line"):
            told.append(("line", self.take_points("line")))
        return told

    def take_machine(self):
        """The machine."""
        k, n = self.take_integers("machine", 2)
        if k not in (1, 2):
            # The line of the machine was the last one that was read.
            raise ReadError(self.lines[self.at - 1][0])
        states = [self.take("state", choice_in, (1 << k,))]
        while self.is_next("state"):
            states.append(self.take("state", choice_in, (1 << k,)))
        nexts = tuple([tuple([after for after, _ in row]) for row in states])
        outs = tuple([tuple([given for _, given in row]) for row in states])
        return ("machine", k, n, nexts, outs)

    def take_symbols(self):
        """The symbols, whose number tells how many bits one has."""
        points = self.take_points("symbols")
        many = len(points).bit_length() - 1
        if many == 0 or len(points) != 1 << many:
            raise ReadError(self.lines[self.at - 1][0])
        return ("symbols", many, points)

    def take_sender(self):
        """The sender."""
        machine = self.take_machine()
        pattern = tuple(self.take("pattern", bits_in, None))
        return ("sender", machine, pattern, self.take_symbols())

    def take_fields(self):
        """All fields of the link."""
        return {
            "opening": self.take_points("opening"),
            "lines": self.take_lines(),
            "slack": self.take_integers("slack", 1)[0],
            "sender": self.take_sender(),
            "code": ("words", *self.take_integers("code", 4)),
            "words": self.take_integers("words", 1)[0],
            "mix": ("mix", *self.take_integers("mix", 2)),
            "check": ("check", *self.take_integers("check", 2)),
            "scrambler": ("scramble", *self.take_integers("scramble", 3)),
            "runs": self.take_integers("runs", 1)[0],
        }


def begun(text):
    """The link with whose lines a text begins, and the lines behind them, each with its number and its words."""
    reader = Reader(text)
    fields = reader.take_fields()
    return (Link(**fields), reader.lines[reader.at:])


def read_link(text):
    """The link that a text writes."""
    reader = Reader(text)
    fields = reader.take_fields()
    if reader.at < len(reader.lines):
        raise ReadError(reader.lines[reader.at][0])
    return Link(**fields)


def point_word(point):
    """The word for a point."""
    return f"{point[0]},{point[1]}"


def bits_word(bits):
    """The word for bits."""
    return "".join([str(bit) for bit in bits])


def line_of(name, words):
    """The line with a name and words."""
    return " ".join([name, *words]) + "\n"


def numbers_line(name, numbers):
    """The line with a name and integers."""
    return line_of(name, [str(number) for number in numbers])


def points_line(name, points):
    """The line with a name and points."""
    return line_of(name, [point_word(point) for point in points])


def sender_lines(sender):
    """The lines of a sender."""
    _, (_, k, n, nexts, outs), pattern, symbols = sender
    lines = [numbers_line("machine", [k, n])]
    for row, given in zip(nexts, outs):
        lines.append(line_of("state", [f"{after}:{bits_word(bits)}" for after, bits in zip(row, given)]))
    lines.append(line_of("pattern", [bits_word(bits) for bits in pattern]))
    lines.append(points_line("symbols", symbols[2]))
    return lines


def write_link(link):
    """The text of a link."""
    lines = [points_line("opening", link.opening)]
    lines.extend([points_line("line", taps) for _, taps in link.lines])
    lines.append(numbers_line("slack", [link.slack]))
    lines.extend(sender_lines(link.sender))
    lines.append(numbers_line("code", link.code[1:]))
    lines.append(numbers_line("words", [link.words]))
    lines.append(numbers_line("mix", link.mix[1:]))
    lines.append(numbers_line("check", link.check[1:]))
    lines.append(numbers_line("scramble", link.scrambler[1:]))
    lines.append(numbers_line("runs", [link.runs]))
    return "".join(lines)
