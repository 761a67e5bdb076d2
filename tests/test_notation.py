"""Points 20.1 to 20.4: texts of links."""

import random
import unittest

from heardtrue.errors import ReadError, ShapeError
from heardtrue.links import Link
from heardtrue.machines import shift_machine
from heardtrue.notation import read_link, write_link
from heardtrue.symbols import levels, square
from slowlinks import SOON
from somelinks import ALL, PLAIN, WIDE, link_of
from support import fault, line_of, senders

TEXT = """opening 4,0 0,4 4,0
line 1,0
slack 1
machine 1 1
state 0:0 0:1
pattern 1
symbols -1,0 1,0
code 4 19 15 5
words 1
mix 1 15
check 4 19
scramble 4 19 1
runs 2
"""
NAMES = [line.split(" ")[0] for line in TEXT.splitlines()]
FIELDS = ("opening", "lines", "slack", "sender", "code", "words", "mix", "check", "scrambler", "runs")


def fields_of(link):
    return {name: getattr(link, name) for name in FIELDS}


def place(text):
    """The place of the ReadError that a text raises, or None if all its lines fit."""
    try:
        read_link(text)
    except ReadError as error:
        return error.place
    except ShapeError:
        return None
    return None


def with_line(name, line):
    """TEXT with another line in the place of the first one with a name, and its number."""
    lines = TEXT.splitlines()
    at = NAMES.index(name)
    return "\n".join(lines[:at] + [line] + lines[at + 1:]) + "\n", at + 1


def written_by_hand(fields):
    """Points 20.2 and 20.4, by their words."""
    _, (_, k, n, nexts, outs), pattern, (_, _, points) = fields["sender"]

    def points_in(row):
        return " ".join("%d,%d" % point for point in row)

    rows = ["opening " + points_in(fields["opening"])]
    rows += ["line " + points_in(taps) for _, taps in fields["lines"]]
    rows += ["slack %d" % fields["slack"], "machine %d %d" % (k, n)]
    for row, given in zip(nexts, outs):
        rows.append("state " + " ".join("%d:%s" % (after, "".join(map(str, bits))) for after, bits in zip(row, given)))
    rows += ["pattern " + " ".join("".join(map(str, row)) for row in pattern), "symbols " + points_in(points)]
    rows += ["code %d %d %d %d" % fields["code"][1:], "words %d" % fields["words"], "mix %d %d" % fields["mix"][1:]]
    rows += ["check %d %d" % fields["check"][1:], "scramble %d %d %d" % fields["scrambler"][1:], "runs %d" % fields["runs"]]
    return "".join(row + "\n" for row in rows)


class Read(unittest.TestCase):
    def test_by_hand(self):
        self.assertEqual(fields_of(read_link(TEXT)), PLAIN)

    def test_lines_that_are_left_out(self):
        wanted = PLAIN
        lines = TEXT.splitlines()
        for more in ("", "   ", "#", "# line 1,0", "#line", "   # opening 1,0", "#runs 2", "##"):
            for at in range(len(lines) + 1):
                self.assertEqual(fields_of(read_link("\n".join(lines[:at] + [more] + lines[at:]))), wanted)
            self.assertEqual(fields_of(read_link(("\n" + more + "\n").join([""] + lines + [""]))), wanted)

    def test_spaces_between_words(self):
        for space in ("  ", "     "):
            text = TEXT.replace(" ", space)
            self.assertEqual(fields_of(read_link(text)), PLAIN)
            self.assertEqual(fields_of(read_link("\n".join(space + line + space for line in text.split("\n")))), PLAIN)

    def test_a_newline_at_the_end_or_none(self):
        for end in ("", "\n", "\n\n", "\n   \n\n", "\n# behind", "\n#\n"):
            self.assertEqual(fields_of(read_link(TEXT[:-1] + end)), PLAIN)

    def test_a_remark_is_none_behind_a_word(self):
        for name in NAMES:
            line = TEXT.splitlines()[NAMES.index(name)]
            for more in (" #", " # remark", " #1"):
                text, number = with_line(name, line + more)
                self.assertEqual(place(text), number)

    def test_several_lines_and_states(self):
        text = TEXT.replace("line 1,0\n", "line 1,0\nline 0,-50 0,0 49,1\nline -7,0\n")
        lines = (line_of((1, 0)), line_of((0, -50), (0, 0), (49, 1)), line_of((-7, 0)))
        self.assertEqual(fields_of(read_link(text)), dict(PLAIN, lines=lines))
        text = TEXT.replace("machine 1 1\nstate 0:0 0:1\n", "machine 1 2\nstate 0:00 1:11\nstate 0:10 1:01\n")
        text = text.replace("pattern 1\n", "pattern 11 01 10\n").replace("symbols -1,0 1,0\n", "symbols 1,1 -1,1 1,-1 -1,-1\n")
        machine = ("machine", 1, 2, ((0, 1), (0, 1)), (((0, 0), (1, 1)), ((1, 0), (0, 1))))
        sender = ("sender", machine, ((1, 1), (0, 1), (1, 0)), ("symbols", 2, ((1, 1), (-1, 1), (1, -1), (-1, -1))))
        self.assertEqual(fields_of(read_link(text)), dict(PLAIN, sender=sender))
        text = TEXT.replace("machine 1 1\nstate 0:0 0:1\n", "machine 2 1\nstate 0:0 0:1 0:1 0:0\n")
        machine = ("machine", 2, 1, ((0, 0, 0, 0),), (((0,), (1,), (1,), (0,)),))
        self.assertEqual(read_link(text).sender[1], machine)


class Refused(unittest.TestCase):
    def test_another_name_than_may_come_there(self):
        lines = TEXT.splitlines()
        for at, line in enumerate(lines):
            for other in ("Opening 1,0", "lines 1,0", "end", "send 0 0 0 -", "state: 0:0 0:1", "1", "-", "remark #", "\topening 1,0"):
                text = "\n".join(lines[:at] + [other] + lines[at + 1:])
                self.assertEqual(place(text), at + 1, (text, other))
            for name in set(NAMES) - {line.split(" ")[0]}:
                # A further line or state may come behind one; then the line behind it is the first that does not fit.
                other = lines[NAMES.index(name)]
                text = "\n".join(lines[:at] + [other] + lines[at + 1:])
                behind = at > 0 and NAMES[at - 1] == name and name in ("line", "state")
                self.assertEqual(place(text), at + 2 if behind else at + 1)

    def test_lines_that_come_twice_or_in_another_order(self):
        lines = TEXT.splitlines()
        for at, line in enumerate(lines):
            number = place("\n".join(lines[:at + 1] + lines[at:]))
            self.assertEqual(number, None if NAMES[at] in ("line", "state") else at + 2)
            if at + 1 < len(lines):
                self.assertEqual(place("\n".join(lines[:at] + [lines[at + 1], lines[at]] + lines[at + 2:])), at + 1)

    def test_a_line_that_is_missing(self):
        lines = TEXT.splitlines()
        for many in range(len(lines)):
            text = "\n".join(lines[:many])
            self.assertEqual(place(text), max(many, 1))
            self.assertEqual(place(text + "\n"), max(many, 1) + 1)
            self.assertEqual(place(text + "\n# one\n\n   \n"), max(many, 1) + 4)
            # The line behind a missing one is the first that does not fit.
            self.assertEqual(place("\n".join(lines[:many] + lines[many + 1:])), min(many + 1, len(lines) - 1))
        self.assertEqual([place(""), place("\n"), place("\n\n#\n")], [1, 2, 4])

    def test_a_line_behind_the_runs(self):
        for more in TEXT.splitlines() + ["hear", "runs", "x", "0"]:
            self.assertEqual(place(TEXT + more), 14)
            self.assertEqual(place(TEXT + "\n#\n" + more + "\n"), 16)

    def test_another_number_of_words(self):
        right = {"slack": 1, "machine": 2, "state": 2, "code": 4, "words": 1, "mix": 2, "check": 2, "scramble": 3, "runs": 1}
        for name, many in right.items():
            line = TEXT.splitlines()[NAMES.index(name)]
            word = line.split(" ")[1]
            for count in range(7):
                text, number = with_line(name, " ".join([name] + [word] * count))
                self.assertEqual(place(text), None if count == many else number, (name, count))
        for name in ("opening", "line", "pattern", "symbols"):
            text, number = with_line(name, name)
            self.assertEqual(place(text), number)
        # As many words as the choices of the machine.
        for k, many in ((1, 2), (2, 4)):
            for count in range(1, 9):
                text = TEXT.replace("machine 1 1", f"machine {k} 1").replace("state 0:0 0:1", "state" + " 0:1" * count)
                self.assertEqual(place(text), None if count == many else 5)
                text = TEXT.replace("machine 1 1", f"machine {k} 1")
                text = text.replace("state 0:0 0:1", "state" + " 0:1" * many + "\nstate" + " 0:1" * count)
                self.assertEqual(place(text), None if count == many else 6)

    def test_the_number_of_the_points_of_symbols(self):
        for many in range(1, 70):
            text, number = with_line("symbols", "symbols" + "".join(f" {2 * at - 999},0" for at in range(many)))
            right = many in (2, 4, 8, 16, 32, 64)
            self.assertEqual(place_or_name(text), None if many == 2 else "bits" if many > 16 and right else "ones" if right else number)

    def test_the_k_of_a_machine(self):
        for k in (0, -1, 3, 4, 11, 999999):
            text = TEXT.replace("machine 1 1", f"machine {k} 1")
            self.assertEqual(place(text), 4)
            self.assertEqual(place(text.replace("state 0:0 0:1", "nothing")), 4)

    def test_integers(self):
        wrong = ("", "+1", "01", "00", "-0", "-01", "--1", "1-", "-", "1.0", "1e1", "0x1", "1_0", "1000000", "-1000000",
                 "0000001", "a", "1a", "1\t", "\u0661", "\u00b2", "1,", ",", "1:1", "None", "True")
        for name in ("slack", "machine", "code", "words", "mix", "check", "scramble", "runs"):
            words = TEXT.splitlines()[NAMES.index(name)].split(" ")
            for at in range(1, len(words)):
                for word in wrong:
                    text, number = with_line(name, " ".join(words[:at] + [word] + words[at + 1:]))
                    self.assertEqual(place(text), number, word)
                for word in ("0", "1", "-1", "999999", "-999999", "100000"):
                    text, number = with_line(name, " ".join(words[:at] + [word] + words[at + 1:]))
                    self.assertEqual(place(text), number if name == "machine" and at == 1 and word != "1" else None)
        self.assertEqual(read_link(TEXT.replace("slack 1", "slack 0")).slack, 0)

    def test_points(self):
        wrong = ("1", "1,", ",1", ",", "1,1,1", "1;1", "(1,1)", "01,1", "1,01", "-0,1", "1,-0", "1000000,0", "0,-1000000", "x,1",
                 "1,x", "1.0,0", "+1,0", "1,,1", "1:1", "1,0\t")
        for name in ("opening", "line", "symbols"):
            for word in wrong:
                for words in ([word, "1,0"], ["1,0", word]):
                    text, number = with_line(name, " ".join([name] + words))
                    self.assertEqual(place(text), number, (name, word))
        self.assertEqual(read_link(TEXT.replace("4,0 0,4", "-4,0 0,-1000")).opening[:2], ((-4, 0), (0, -1000)))

    def test_bits_and_choices(self):
        for word in ("2", "012", "a", "1,0", "-1", "+1", "1.0", "\u0661"):
            for words in (word, "1 " + word, word + " 1"):
                text, number = with_line("pattern", "pattern " + words)
                self.assertEqual(place(text), number, word)
        for word in ("0", "0:", ":0", ":", "0:2", "0:0:1", "0:-1", "00:0", "-0:1", "x:0", "0,1", "0;1", "1000000:1", "0: ", "0::1"):
            for words in ("0:0 " + word, word + " 0:0"):
                text, number = with_line("state", "state " + words)
                self.assertEqual(place(text), number, word)
        # Bits and states that fit as words, but make no machine.
        for word in ("0:01", "1:1", "-1:1", "999999:1", "0:00000000000"):
            text, _ = with_line("state", "state 0:0 " + word)
            self.assertEqual(place_or_name(text), "machine")

    def test_the_first_line_that_does_not_fit(self):
        lines = TEXT.splitlines()
        for first in range(len(lines)):
            for last in range(first, len(lines)):
                text = "\n".join("x" if at in (first, last) else line for at, line in enumerate(lines))
                self.assertEqual(place(text), first + 1)
        self.assertEqual(place("\n\n# x\n" + "\n".join(["x"] + lines)), 4)

    def test_what_link_raises_if_all_lines_fit(self):
        for name, line, wanted in (
            ("opening", "opening 0,0", "opening"), ("opening", "opening 1001,0", "opening"),
            ("opening", "opening" + " 1,0" * 65, "opening"), ("line", "line 1,0 1,0 1,0 1,0 1,0", "taps"),
            ("line", "line 51,0", "tap"), ("line", "line 0,0", "nothing"), ("line", "line 1,0\n" * 4 + "line 1,0", "lines"),
            ("slack", "slack 51", "slack"), ("slack", "slack -1", "slack"), ("machine", "machine 1 2", "machine"),
            ("state", "state 0:0 0:1\n" * 17 + "#", "machine"), ("pattern", "pattern 11", "pattern"),
            ("pattern", "pattern 1 1 1 1 1", "pattern"), ("pattern", "pattern 0", "ones"), ("symbols", "symbols 1,0 2,0", "alike"),
            ("symbols", "symbols 1,0 1,0", "twice"), ("symbols", "symbols 1,0 1001,0", "point"), ("code", "code 4 18 15 5", "words"),
            ("words", "words 9", "words"), ("words", "words 2", "mix"), ("mix", "mix 2 15", "mix"), ("check", "check 4 18", "check"),
            ("scramble", "scramble 4 19 0", "scramble"), ("runs", "runs 9", "runs"), ("runs", "runs 0", "runs"),
            ("code", "code 4 19 15 1", "size"), ("state", "state 0:1 0:1\nstate 1:1 1:1", "tail"),
        ):
            self.assertEqual(place_or_name(with_line(name, line)[0]), wanted, line)
            # A line that does not fit counts first, wherever it stands.
            self.assertEqual(place(with_line(name, line)[0] + "x"), 14 + line.count("\n"))


def place_or_name(text):
    """The place of the ReadError, or the name of the ShapeError that a text raises."""
    number = place(text)
    return fault(read_link, text) if number is None else number


class Written(unittest.TestCase):
    def test_by_hand(self):
        self.assertEqual(write_link(link_of(PLAIN)), TEXT)
        self.assertEqual(write_link(read_link(TEXT)), TEXT)

    def test_what_was_written_is_read_as_the_same_link(self):
        source = random.Random(360)
        more = [dict(PLAIN, sender=sender) for sender in senders(361, 60)]
        more += [dict(WIDE, sender=("sender", shift_machine((7, 5)), ((1, 1), (1, 1)), points)) for points in (levels(4), square(4))]
        for fields in ALL + SOON + tuple(more):
            fields = dict(fields, opening=fields["opening"] + ((-1000, 1000), (source.randint(-99, 99), 0)) * (len(fields["opening"]) < 60))
            link = Link(**fields)
            text = write_link(link)
            self.assertEqual(text, written_by_hand(fields))
            self.assertEqual(fields_of(read_link(text)), fields)
            self.assertEqual(write_link(read_link(text)), text)
            self.assertEqual(fields_of(link), fields)

    def test_a_link_of_lists_is_written_too(self):
        link = Link(**dict(PLAIN, opening=list(PLAIN["opening"]), lines=list(PLAIN["lines"])))
        self.assertEqual(write_link(link), TEXT)

    def test_a_text_that_is_read_is_written_plainly(self):
        text = "# a remark\n\n" + TEXT.replace(" ", "   ").replace("\n", "  \n#\n")
        self.assertEqual(write_link(read_link(text)), TEXT)


if __name__ == "__main__":
    unittest.main()
