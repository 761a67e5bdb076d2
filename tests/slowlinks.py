"""Links by the words of the document: which runs send a symbol, what is found, and what is heard."""

from itertools import product

from heardtrue.frames import message_in
from heardtrue.links import Link
from heardtrue.machines import shift_machine
from heardtrue.runs import hear_run
from heardtrue.symbols import levels
from heardtrue.words import encode
from somelinks import PLAIN
from support import bits_in, block_bits, line_of, number_in, smeared_by_hand, tail_by_hand
from test_frames import points_by_hand, rows_by_hand, told_by_hand

# Links that are heard soon, with words that can all be tried.
TINY = {
    "opening": ((3, 0), (0, 3), (3, 3)),
    "lines": (line_of((1, 0)), line_of((2, 0), (0, 1))),
    "slack": 2,
    "sender": ("sender", shift_machine((7, 5)), ((1, 1),), levels(1)),
    "code": ("words", 3, 11, 7, 3),
    "words": 2,
    "mix": ("mix", 2, 7),
    "check": ("check", 2, 7),
    "scrambler": ("scramble", 2, 7, 1),
    "runs": 5,
}
# Symbols are cut in two by the runs.
CUT = dict(TINY, runs=4, mix=("mix", 7, 2), lines=(line_of((0, 1), (0, 0), (1, 0)), line_of((1, 0))), slack=0)
# Each run sends one symbol of each word, and the last one nothing but zeros.
LONE = dict(TINY, sender=PLAIN["sender"], runs=8)
SOON = (TINY, CUT, LONE)


def link_of(fields, **changed):
    return Link(**dict(fields, **changed))


def order_by_hand(fields):
    """Point 11.1: the pairs of a word and a place, in the order of sending."""
    _, _, _, n, _ = fields["code"]
    _, rows, columns = fields["mix"]
    table = [divmod(at, n) for at in range(fields["words"] * n)]
    return [table[row * columns + column] for column in range(columns) for row in range(rows)]


def run_bits(fields):
    _, m, _, n, _ = fields["code"]
    bits = block_bits(fields["sender"])
    blocks = 0
    while blocks * bits * fields["runs"] < fields["words"] * n * m:
        blocks += 1
    return blocks * bits


def runs_touched(fields):
    """A dict from the pairs of a word and a place to the set of the runs in which their bits are sent, bit by bit."""
    m = fields["code"][1]
    many = run_bits(fields)
    found = {}
    for at, symbol in enumerate(order_by_hand(fields)):
        for bit in range(at * m, at * m + m):
            found.setdefault(symbol, set()).add(bit // many)
    return found


def starts_by_hand(fields):
    """At which points of a frame the runs begin, and the number of the points of one."""
    sender = fields["sender"]
    bits = block_bits(sender)
    blocks = run_bits(fields) // bits + tail_by_hand(sender)[0]
    many = blocks * (sum(map(sum, sender[2])) // sender[3][1])
    ahead = len(fields["opening"]) + fields["slack"] + 3
    return [ahead + run * (many + 3) for run in range(fields["runs"])], many


def turned_by_hand(line, turn):
    for _ in range(turn):
        line = ("line", tuple((-y, x) for x, y in line[1]))
    return line


def found_by_hand(fields, samples):
    """Point 14.3: the least cost of all guesses, and the least triple that has it."""
    told = []
    for place in range(fields["slack"] + 1):
        for turn in range(4):
            for number, line in enumerate(fields["lines"]):
                shape = smeared_by_hand(turned_by_hand(line, turn), list(fields["opening"]))[:len(fields["opening"])]
                pairs = [(a, b) for a, b in zip(shape, samples[place:]) if b is not None]
                cost = sum((a - c) ** 2 + (b - d) ** 2 for (a, b), (c, d) in pairs)
                told.append((cost, (place, turn, number)))
    return min(told)[1]


def windows_by_hand(fields, found, samples):
    place, turn, number = found
    starts, many = starts_by_hand(fields)
    line = turned_by_hand(fields["lines"][number], turn)
    return line, [samples[place + start:place + start + many + len(line[1]) - 1] for start in starts]


def verdicts_by_hand(fields, found, samples):
    """What is heard of the runs."""
    line, windows = windows_by_hand(fields, found, samples)
    blocks = run_bits(fields) // block_bits(fields["sender"])
    return [hear_run(fields["sender"], line, blocks, window)[0] for window in windows]


def symbols_by_hand(fields, verdicts):
    """For each word the symbols that the runs tell, and the places that are gaps."""
    _, m, _, n, _ = fields["code"]
    row = [bit for verdict in verdicts for bit in verdict[1]]
    words = [[None] * n for _ in range(fields["words"])]
    for at, (word, place) in enumerate(order_by_hand(fields)):
        words[word][place] = number_in(row[at * m:at * m + m])
    gaps = [[] for _ in words]
    for (word, place), runs in sorted(runs_touched(fields).items()):
        if any(verdicts[run][0] == "tie" for run in runs):
            gaps[word].append(place)
    return words, gaps


KNOWN = {}


def all_words(code):
    """All words of a small code."""
    if code not in KNOWN:
        KNOWN[code] = [encode(code, list(told)) for told in product(range(2 ** code[1]), repeat=code[4])]
    return KNOWN[code]


def mended_by_hand(code, heard, gaps):
    """Point 10.4, with all words."""
    for word in all_words(code):
        wrong = sum(a != b and place not in gaps for place, (a, b) in enumerate(zip(heard, word)))
        if 2 * wrong + len(gaps) <= code[3] - code[4]:
            return word
    return None


def answer_by_hand(fields, words):
    """Point 16.2 for words, None standing for one that is not found."""
    if None in words:
        return ("refused", "word", words.index(None))
    _, m, _, _, k = fields["code"]
    message = message_in(Link(**fields), [bit for word in words for symbol in word[:k] for bit in bits_in(symbol, m)])
    return ("refused", message, 0) if isinstance(message, str) else ("heard", message)


def heard_by_hand(fields, samples):
    """Point 16.1, word by word: the triple, the verdicts, the words and the answer."""
    found = found_by_hand(fields, samples)
    verdicts = verdicts_by_hand(fields, found, samples)
    symbols, gaps = symbols_by_hand(fields, verdicts)
    words = [mended_by_hand(fields["code"], heard, places) for heard, places in zip(symbols, gaps)]
    return found, verdicts, words, answer_by_hand(fields, words)


def samples_of_words(fields, words, place, turn, number):
    """The samples of a frame with these words, whatever they tell."""
    points = points_by_hand(fields, rows_by_hand(fields, words))
    around = [(0, 0)] * place + points + [(0, 0)] * (fields["slack"] - place)
    return smeared_by_hand(turned_by_hand(fields["lines"][number], turn), around)[:fields["slack"] + len(points)]


def words_telling(fields, told):
    """The words that tell a row of bits."""
    _, m, _, _, k = fields["code"]
    symbols = [number_in(told[at:at + m]) for at in range(0, len(told), m)]
    return [encode(fields["code"], symbols[at:at + k]) for at in range(0, len(symbols), k)]


def bad_words(fields):
    """Words that tell no message, by the name of what is wrong."""
    link = Link(**fields)
    most = link.most_bytes()
    told = told_by_hand(fields, most, [200] * most)
    wrong = list(told)
    wrong[0] ^= 1
    found = {"check": wrong, "length": told_by_hand(fields, most + 1, [0] * most)}
    if most > 0:
        found["filling"] = told_by_hand(fields, 0, [1] * most)
    return {name: words_telling(fields, row) for name, row in found.items()}


def run_places(fields, found, run):
    """The places of the samples of a run."""
    starts, many = starts_by_hand(fields)
    reach = len(fields["lines"][found[2]][1]) - 1
    return range(found[0] + starts[run], found[0] + starts[run] + many + reach)
