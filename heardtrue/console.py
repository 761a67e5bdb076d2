"""Scripts: a link, and commands that send frames over its lines, spoil them, and hear them."""

from heardtrue.audits import audit
from heardtrue.budgets import promise
from heardtrue.distances import distance
from heardtrue.errors import ReadError, ShapeError
from heardtrue.frames import frame_samples
from heardtrue.freedoms import free_distance, ring
from heardtrue.hearing import hear
from heardtrue.lines import added
from heardtrue.notation import begun, integer_in, point_in, point_word

HEX = "0123456789abcdef"
MOST_BLOCKS = 8


def message_in_word(word):
    """The message that a word writes, or None."""
    if word == "-":
        return []
    if word == "" or len(word) & 1 == 1 or not all([sign in HEX for sign in word]):
        return None
    return [16 * HEX.index(word[at]) + HEX.index(word[at + 1]) for at in range(0, len(word), 2)]


def message_word(message):
    """The word for a message."""
    return "".join([f"{byte:02x}" for byte in message]) if len(message) > 0 else "-"


def sample_word(sample):
    """The word for a sample."""
    return "lost" if sample is None else point_word(sample)


class Script:
    """What the commands of a script work on: a link, and the samples, of which there are none in the beginning."""

    def __init__(self, link):
        self.link = link
        self.samples = []


def check_range(number, low, high, name):
    """Raises ShapeError with a name unless a number is from the one to the other."""
    if not low <= number <= high:
        raise ShapeError(name)


def check_place(script, at):
    """Raises ShapeError if there is no sample with this index."""
    check_range(at, 0, len(script.samples) - 1, "place")


def line_with(script, number):
    """The line of the link with this index."""
    check_range(number, 0, len(script.link.lines) - 1, "number")
    return script.link.lines[number]


def send(script, place, turn, number, message):
    """Takes the samples of a frame."""
    check_range(place, 0, script.link.slack, "place")
    check_range(turn, 0, 3, "turn")
    line_with(script, number)
    script.samples = frame_samples(script.link, message, place=place, turn=turn, number=number)
    return [f"samples {len(script.samples)}"]


def noise(script, at, point):
    """Adds a point to a sample."""
    check_place(script, at)
    script.samples[at] = added(script.samples[at], point)
    return []


def lose(script, at):
    """Loses a sample."""
    check_place(script, at)
    script.samples[at] = None
    return []


def show(script, first, last):
    """Writes the samples from the first one up to the last one, which is not among them."""
    check_place(script, first)
    shown = [sample_word(sample) for sample in script.samples[first:max(first, last)]]
    return [" ".join(["show", *shown])]


def write_answer(script):
    """Hears the samples, and writes the answer; without samples their number is wrong."""
    answer, _ = hear(script.link, script.samples)
    if answer[0] == "heard":
        return [f"heard {message_word(answer[1])}"]
    return [f"refused {answer[1]} {answer[2]}"]


def write_audit(script):
    """Hears the samples, and writes what the audit says of the paper."""
    _, paper = hear(script.link, script.samples)
    message = audit(script.link, script.samples, paper)
    return ["not taken" if message is None else f"taken {message_word(message)}"]


def write_promise(script):
    """Writes what is promised."""
    _, opening, run, spare = promise(script.link)
    return [f"promise {opening} {run} {spare}"]


def write_distance(script, number, blocks):
    """Writes the distance of so many blocks over a line."""
    check_range(blocks, 0, MOST_BLOCKS, "blocks")
    least = distance(script.link.sender, line_with(script, number), blocks)
    return ["distance none" if least is None else f"distance {least}"]


def write_free(script, number):
    """Writes the free distance over a line."""
    return [f"free {free_distance(script.link.sender, line_with(script, number))}"]


def write_ring(script, number):
    """Writes if there is a ring over a line."""
    found = ring(script.link.sender, line_with(script, number))
    return ["ring no" if found is None else "ring yes"]


# For each command how its words are written: i for an integer, p for a point, m for a message.
FORMS = {
    "send": "iiim", "noise": "ip", "lose": "i", "show": "ii", "hear": "", "audit": "", "promise": "", "distance": "ii",
    "free": "i", "ring": "i",
}
ACTIONS = {
    "send": send, "noise": noise, "lose": lose, "show": show, "hear": write_answer, "audit": write_audit,
    "promise": write_promise, "distance": write_distance, "free": write_free, "ring": write_ring,
}


def part_in(kind, word):
    """What a word of this kind writes, or None."""
    if kind == "m":
        return message_in_word(word)
    return point_in(word) if kind == "p" else integer_in(word)


def parts_in(words):
    """What the words behind the name of a command write, or None if they make no command."""
    form = FORMS.get(words[0], None)
    if form is None or len(form) != len(words) - 1:
        return None
    parts = [part_in(kind, word) for kind, word in zip(form, words[1:])]
    return None if None in parts else parts


def lines_of(script, name, parts):
    """The lines that a command writes."""
    action = ACTIONS[name]
    try:
        return action(script, *parts)
    except ShapeError as error:
        return [f"error {error.name}"]


def run_script(text):
    """The lines that a script writes."""
    link, commands = begun(text)
    script = Script(link)
    written = []
    for number, words in commands:
        parts = parts_in(words)
        if parts is None:
            raise ReadError(number)
        written.extend(lines_of(script, words[0], parts))
    return written
