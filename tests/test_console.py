"""Point 20.5: scripts."""

import random
import unittest

from heardtrue.audits import audit
from heardtrue.budgets import promise
from heardtrue.console import run_script
from heardtrue.distances import distance
from heardtrue.errors import ReadError, ShapeError
from heardtrue.frames import frame_samples
from heardtrue.freedoms import free_distance, ring
from heardtrue.hearing import hear
from heardtrue.notation import write_link
from heardtrue.machines import shift_machine
from heardtrue.symbols import levels
from slowlinks import CUT, LONE, TINY, bad_words, link_of, samples_of_words
from somelinks import EMPTY, PLAIN, WIDE
from support import line_of, stands_alone
from test_notation import TEXT

RINGED = dict(PLAIN, sender=("sender", shift_machine((3, 3)), ((1, 1),), levels(1)), mix=("mix", 1, 15))
LINES = len(TEXT.splitlines())


def told(fields, *commands):
    """What a script of a link and commands writes."""
    return run_script(write_link(link_of(fields)) + "\n".join(commands))


def place(text):
    """The place of the ReadError that a script raises, or None."""
    try:
        run_script(text)
    except ReadError as error:
        return error.place
    return None


def word_of(sample):
    return "lost" if sample is None else "%d,%d" % sample


def hexed(message):
    return "".join("%02x" % byte for byte in message) or "-"


class Sent(unittest.TestCase):
    def test_samples(self):
        for fields in (PLAIN, TINY, CUT):
            link = link_of(fields)
            for place_, turn, number, message in ((0, 0, 0, [7]), (fields["slack"], 3, len(fields["lines"]) - 1, [255])):
                samples = frame_samples(link, message, place=place_, turn=turn, number=number)
                out = told(fields, f"send {place_} {turn} {number} {hexed(message)}", "show 0 999")
                self.assertEqual(out, [f"samples {len(samples)}", " ".join(["show"] + [word_of(s) for s in samples])])

    def test_bytes(self):
        for message in ([], [0], [9, 10], [0xab, 0xcd, 0xef], [1, 0x23, 0x45, 0xff]):
            out = told(WIDE, f"send 0 0 0 {hexed(message)}", "hear")
            self.assertEqual(out[1], "heard " + hexed(message))
        self.assertEqual(told(EMPTY, "send 0 0 0 -", "hear", "audit")[1:], ["heard -", "taken -"])

    def test_errors_and_their_order(self):
        # PLAIN has the slack 1, one line, and room for one byte.
        for place_, first in ((0, None), (1, None), (2, "place"), (-1, "place"), (999999, "place")):
            for turn, second in ((0, None), (3, None), (4, "turn"), (-1, "turn")):
                for number, third in ((0, None), (1, "number"), (-1, "number")):
                    for message, fourth in (("-", None), ("ff", None), ("0000", "message"), ("00" * 200, "message")):
                        names = [name for name in (first, second, third, fourth) if name is not None]
                        wanted = f"error {names[0]}" if names else "samples 74"
                        self.assertEqual(told(PLAIN, f"send {place_} {turn} {number} {message}"), [wanted])

    def test_a_send_that_fails_leaves_the_samples(self):
        out = told(PLAIN, "hear", "send 2 0 0 -", "hear", "send 0 0 0 a5", "send 0 0 0 a5a5", "hear", "send 1 1 0 -", "hear")
        self.assertEqual(out, ["error samples", "error place", "error samples", "samples 74", "error message", "heard a5",
                               "samples 74", "heard -"])


class Spoiled(unittest.TestCase):
    def test_noise_lose_and_show(self):
        out = told(
            PLAIN, "send 0 0 0 00", "show 0 4", "noise 0 1,-5", "noise 0 10,0", "show 0 1", "lose 1", "noise 1 9,9", "show 0 3",
            "lose 1", "show 1 2", "noise 73 -1,0", "lose 73", "show 72 74")
        self.assertEqual(out, [
            "samples 74", "show 4,0 0,4 4,0 0,0", "show 15,-5", "show 15,-5 lost 4,0", "show lost", "show 0,0 lost"])

    def test_show_beyond_the_last_sample(self):
        out = told(PLAIN, "send 0 0 0 00", "show 72 75", "show 73 999999", "show 73 73", "show 5 2", "show 5 -1", "show 5 0",
                   "show 74 75", "show -1 3")
        self.assertEqual(out, ["samples 74", "show 0,0 0,0", "show 0,0", "show", "show", "show", "show", "error place", "error place"])

    def test_there_is_no_such_sample(self):
        for command in ("noise {} 1,1", "lose {}", "show {} 80"):
            self.assertEqual(told(PLAIN, command.format(0)), ["error place"])
            for at in (-1, -74, 74, 999999):
                self.assertEqual(told(PLAIN, "send 0 0 0 -", command.format(at))[1:], ["error place"])
            self.assertEqual(told(PLAIN, "send 0 0 0 -", command.format(73))[1:], ["show 0,0"] if command[0] == "s" else [])

    def test_what_was_spoiled_is_heard_so(self):
        link = link_of(LONE)
        samples = frame_samples(link, [9], place=1, turn=2, number=0)
        commands = ["send 1 2 0 09"]
        source = random.Random(370)
        for at in source.sample(range(9, 60), 9):
            if source.random() < 0.5:
                samples[at] = None
                commands.append(f"lose {at}")
            else:
                x, y = source.randint(-3, 3), source.randint(-3, 3)
                if samples[at] is not None:
                    samples[at] = (samples[at][0] + x, samples[at][1] + y)
                commands.append(f"noise {at} {x},{y}")
            answer, paper = hear(link, samples)
            line = f"heard {hexed(answer[1])}" if paper else f"refused {answer[1]} {answer[2]}"
            audited = "not taken" if paper is None else f"taken {hexed(audit(link, samples, paper))}"
            self.assertEqual(told(LONE, *commands, "hear", "audit", "hear")[1:], [line, audited, line])


class Heard(unittest.TestCase):
    def test_without_samples(self):
        self.assertEqual(told(PLAIN, "hear", "audit"), ["error samples"] * 2)

    def test_refused(self):
        # All runs are lost: every symbol is a gap.
        out = told(TINY, "send 0 0 0 -", *[f"lose {at}" for at in range(8, 100)], "hear", "audit")
        self.assertEqual(out[1:], ["refused word 0", "not taken"])

    def test_names_of_messages_that_are_refused(self):
        names = set()
        for name, words in bad_words(LONE).items():
            wrong = samples_of_words(LONE, words, 0, 0, 0)
            right = frame_samples(link_of(LONE), [0], place=0, turn=0, number=0)
            commands = [
                f"noise {at} {a - c},{b - d}" for at, ((a, b), (c, d)) in enumerate(zip(wrong, right)) if (a, b) != (c, d)
            ]
            out = told(LONE, "send 0 0 0 00", *commands, "hear", "audit")
            self.assertEqual(out, [f"samples {len(right)}", f"refused {name} 0", "not taken"])
            names.add(name)
        self.assertEqual(names, {"check", "length", "filling"})


class Numbers(unittest.TestCase):
    def test_promise(self):
        for fields in (PLAIN, TINY, CUT, LONE):
            self.assertEqual(told(fields, "promise"), ["promise %d %d %d" % promise(link_of(fields))[1:]])
        self.assertEqual(told(dict(PLAIN, slack=0), "promise"), ["promise 96 4 0"])

    def test_distance(self):
        for fields in (PLAIN, TINY, CUT):
            for number, line in enumerate(fields["lines"]):
                commands = [f"distance {number} {blocks}" for blocks in range(9)]
                wanted = [f"distance {distance(fields['sender'], line, blocks)}" for blocks in range(1, 9)]
                self.assertEqual(told(fields, *commands), ["distance none"] + wanted)
        for number, blocks, wanted in ((0, 9, "blocks"), (0, -1, "blocks"), (1, 9, "blocks"), (-1, -1, "blocks"), (1, 8, "number"),
                                       (-1, 0, "number"), (1, 0, "number")):
            self.assertEqual(told(PLAIN, f"distance {number} {blocks}"), [f"error {wanted}"])

    def test_free_and_ring(self):
        rings = set()
        for fields in (PLAIN, TINY, CUT, RINGED):
            for number, line in enumerate(fields["lines"]):
                found = "ring no" if ring(fields["sender"], line) is None else "ring yes"
                rings.add(found)
                out = told(fields, f"free {number}", f"ring {number}")
                self.assertEqual(out, [f"free {free_distance(fields['sender'], line)}", found])
            for number in (-1, len(fields["lines"]), 999999):
                self.assertEqual(told(fields, f"free {number}", f"ring {number}"), ["error number"] * 2)
        self.assertEqual(rings, {"ring no", "ring yes"})


class Read(unittest.TestCase):
    RIGHT = ("send 0 0 0 -", "noise 0 1,1", "lose 0", "show 0 1", "hear", "audit", "promise", "distance 0 1", "free 0", "ring 0")

    def test_no_commands(self):
        self.assertEqual(run_script(TEXT), [])
        self.assertEqual(run_script(TEXT[:-1]), [])

    def test_lines_that_are_left_out(self):
        out = run_script(TEXT + "\n# send 0 0 0 ff\n   \n  send   0 0  0 ff  \n#hear\nhear\n\n")
        self.assertEqual(out, ["samples 74", "heard ff"])

    def test_lines_that_are_no_commands(self):
        wrong = ["x", "Hear", "hears", "hear 0", "hear -", "audit 1", "promise 0", "send", "send 0 0 0", "send 0 0 0 - -",
                 "noise 0", "noise 0 1", "noise 0 1 1", "lose", "lose 0 0", "show", "show 0", "show 0 1 2", "distance 0",
                 "distance", "distance 0 1 2", "free", "free 0 0", "ring", "ring 0 0", "runs 2", "opening 1,0", "link", "0", "-",
                 "hear\t", "\thear", "hear #"]
        for word in ("x", "1.0", "01", "-0", "+1", "1000000", "1,1", "--1", "\u0661", "0x1"):
            wrong += [f"send {word} 0 0 -", f"send 0 {word} 0 -", f"send 0 0 {word} -", f"noise {word} 1,1", f"lose {word}",
                      f"show {word} 1", f"show 0 {word}", f"distance {word} 1", f"distance 0 {word}", f"free {word}", f"ring {word}"]
        for word in ("1", "1,", "1,1,1", "x,1", "01,1", "-0,0", "1000000,0", "-"):
            wrong.append(f"noise 0 {word}")
        for word in ("0", "000", "A5", "a5 a5", "g0", "0x", "--", "-00", "a5-", "\u0661\u0661", "00,", "+1"):
            wrong.append(f"send 0 0 0 {word}")
        for line in wrong:
            self.assertEqual(place(TEXT + line), LINES + 1, line)
            self.assertEqual(place(TEXT + "send 0 0 0 -\n#\n\nhear\n" + line + "\nhear\n"), LINES + 5, line)
        for line in self.RIGHT:
            self.assertIsNone(place(TEXT + line))

    def test_the_first_line_that_is_no_command(self):
        for first in range(6):
            for last in range(first, 6):
                lines = ["x" if at in (first, last) else "hear" for at in range(6)]
                self.assertEqual(place(TEXT + "\n".join(lines)), LINES + 1 + first)

    def test_the_lines_of_the_link(self):
        lines = TEXT.splitlines()
        for at in range(LINES):
            for other in ("hear", "x", "send 0 0 0 -"):
                self.assertEqual(place("\n".join(lines[:at] + [other] + lines[at + 1:] + ["hear"])), at + 1)
            self.assertEqual(place("\n".join(lines[:at])), max(at, 1))
        self.assertEqual([place(""), place("hear"), place("\n\nhear\n")], [1, 1, 3])

    def test_what_link_raises(self):
        for text, name in ((TEXT.replace("runs 2", "runs 9"), "runs"), (TEXT.replace("slack 1", "slack 51"), "slack"),
                           (TEXT.replace("code 4 19 15 5", "code 4 19 15 1"), "size")):
            for commands in ("", "hear\n", "send 0 0 0 -\nhear\n"):
                with self.assertRaises(ShapeError) as caught:
                    run_script(text + commands)
                self.assertEqual(caught.exception.name, name)

    def test_all_commands_one_behind_the_other(self):
        self.assertEqual(told(PLAIN, *self.RIGHT), [
            "samples 74", "show lost", "heard -", "taken -", "promise " + " ".join(map(str, promise(link_of(PLAIN))[1:])),
            "distance 4", "free 4", "ring no"])


class Kept(unittest.TestCase):
    def test_results_are_new(self):
        text = TEXT + "send 0 1 0 77\nnoise 5 1,1\nhear\naudit\nshow 0 9\n"
        stands_alone(self, run_script, text)
        # Scripts begin without samples, whatever another one did ahead of them.
        run_script(text)
        self.assertEqual(run_script(TEXT + "hear"), ["error samples"])

    def test_lines_of_several_lines(self):
        fields = dict(PLAIN, lines=(line_of((1, 0)), line_of((0, 1)), line_of((2, 0), (1, 0))))
        out = told(fields, "send 0 0 0 81", "show 0 1", "send 0 0 1 81", "show 0 1", "send 0 0 2 81", "show 0 2", "hear", "send 0 0 3 81")
        self.assertEqual(out[1:2] + out[3:4] + out[5:], ["show 4,0", "show 0,4", "show 8,0 4,8", "heard 81", "error number"])


if __name__ == "__main__":
    unittest.main()
