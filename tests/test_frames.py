"""Points 15.3 to 15.5: what becomes of a message, and a message of told bits."""

import random
import unittest

from heardtrue.errors import ShapeError
from heardtrue.frames import frame_points, frame_samples, message_bits, message_in, rows_for, words_for
from heardtrue.machines import shift_machine
from heardtrue.openings import arrival, find
from heardtrue.runs import hear_run, run_samples
from heardtrue.symbols import levels
from slowfields import signs_of
from somelinks import ALL, EMPTY, GREAT, PLAIN, WIDE, link_of
from support import (
    bits_in, block_by_hand, block_bits, fault, number_in, smeared_by_hand, stands_alone, tail_by_hand,
)
from test_checks import rest_by_hand
from test_scramblers import key_by_hand


def messages(source, most):
    """Messages of no byte, of some, and of the most."""
    return [[source.randrange(256) for _ in range(many)] for many in sorted({0, 1, most // 2, most - 1, most}) if 0 <= many <= most]


def told_by_hand(fields, length, content, *, check=None, behind=None):
    """The bits that the words tell for a first number, the bytes and a check, and the bits behind them."""
    _, m, _, n, k = fields["code"]
    told = fields["words"] * k * m
    most = (told - fields["check"][1]) // 8 - 1
    row = bits_in(length, 8) + [bit for byte in content + [0] * (most - len(content)) for bit in bits_in(byte, 8)]
    row += check or rest_by_hand(fields["check"][2], row + [0] * fields["check"][1])
    row = [a ^ b for a, b in zip(row, key_by_hand(fields["scrambler"], len(row)))]
    return row + (behind or [0] * (told - len(row)))


def rows_by_hand(fields, words):
    """Point 15.4, by its words."""
    _, m, _, _, _ = fields["code"]
    _, rows, columns = fields["mix"]
    symbols = [symbol for word in words for symbol in word]
    table = [symbols[at:at + columns] for at in range(0, len(symbols), columns)]
    row = [bit for column in range(columns) for line in table for bit in bits_in(line[column], m)]
    many = block_bits(fields["sender"])
    while many * fields["runs"] < len(row):
        many += block_bits(fields["sender"])
    row += [0] * (many * fields["runs"] - len(row))
    return [row[at * many:at * many + many] for at in range(fields["runs"])]


def points_by_hand(fields, rows):
    """Point 15.5, by its words."""
    sender = fields["sender"]
    bits = block_bits(sender)
    _, ways = tail_by_hand(sender)
    points = list(fields["opening"]) + [(0, 0)] * (fields["slack"] + 3)
    for row in rows:
        labels = [number_in(row[at:at + bits]) for at in range(0, len(row), bits)]
        state, sent = 0, []
        for label in labels:
            state, more = block_by_hand(sender, state, label)
            sent += more
        for label in ways[state]:
            state, more = block_by_hand(sender, state, label)
            sent += more
        points += sent + [(0, 0)] * 3
    return points


class Messages(unittest.TestCase):
    def test_by_hand(self):
        link = link_of(PLAIN)
        clear = bits_in(1, 8) + bits_in(0xa5, 8)
        check = rest_by_hand(19, clear + [0] * 4)
        key = key_by_hand(PLAIN["scrambler"], 20)
        self.assertEqual(message_bits(link, [0xa5]), [a ^ b for a, b in zip(clear + check, key)])

    def test_bits(self):
        source = random.Random(230)
        for fields in ALL:
            link = link_of(fields)
            for message in messages(source, link.most_bytes()):
                told = message_bits(link, message)
                self.assertEqual(told, told_by_hand(fields, len(message), message))
                self.assertEqual(len(told), link.told_bits())
                self.assertEqual(message_in(link, told), message)

    def test_zeros_behind_the_check_are_not_scrambled(self):
        # 45 bits are told: 8 and 4 * 8, and 5 of the check, are used of them.
        fields = dict(WIDE, check=("check", 4, 19))
        told = message_bits(link_of(fields), [1, 2, 3, 4])
        self.assertEqual((len(told), told[44:]), (45, [0]))
        fields = dict(WIDE, words=8, mix=("mix", 8, 7))
        told = message_bits(link_of(fields), [255] * 13)
        self.assertEqual((len(told), told[117:]), (120, [0] * 3))

    def test_message(self):
        for fields in ALL:
            link = link_of(fields)
            most = link.most_bytes()
            wrong = [[0] * (most + 1), [0] * (most + 9)]
            if most:
                wrong += [[256], [-1], [True], [None], [1.0], ["1"], [[1]], [0] * (most - 1) + [256], [False] * most]
            for message in wrong:
                for function in (message_bits, words_for, rows_for, frame_points):
                    self.assertEqual(fault(function, link, message), "message", message)
                with self.assertRaises(ShapeError) as caught:
                    frame_samples(link, message, place=0, turn=0, number=0)
                self.assertEqual(caught.exception.name, "message")
            self.assertIsNone(fault(frame_points, link, [255] * most))


class Read(unittest.TestCase):
    def test_messages_come_back(self):
        source = random.Random(231)
        for fields in ALL:
            link = link_of(fields)
            for _ in range(5):
                for message in messages(source, link.most_bytes()):
                    self.assertEqual(message_in(link, message_bits(link, message)), message)

    def test_check(self):
        for fields in (PLAIN, WIDE, EMPTY):
            link = link_of(fields)
            right = message_bits(link, [7] * link.most_bytes())
            for place in range(8 + 8 * link.most_bytes() + fields["check"][1]):
                row = list(right)
                row[place] ^= 1
                self.assertEqual(message_in(link, row), "check")

    def test_filling_behind_the_check(self):
        fields = dict(WIDE, words=8, mix=("mix", 8, 7))
        link = link_of(fields)
        right = message_bits(link, [9] * 13)
        for place in (117, 118, 119):
            row = list(right)
            row[place] ^= 1
            self.assertEqual(message_in(link, row), "filling")
            # It comes ahead of a wrong check.
            row[3] ^= 1
            self.assertEqual(message_in(link, row), "filling")

    def test_length(self):
        for fields in (PLAIN, WIDE, EMPTY):
            link = link_of(fields)
            most = link.most_bytes()
            for length in range(256):
                told = message_in(link, told_by_hand(fields, length, []))
                self.assertEqual(told, "length" if length > most else [0] * length)
                # A length that is too great is told ahead of bytes behind the message, and a wrong check ahead of it.
                content = [1] * most
                wanted = "length" if length > most else "filling" if length < most else content
                self.assertEqual(message_in(link, told_by_hand(fields, length, content)), wanted)
                bad = told_by_hand(fields, length, content)
                bad[1] ^= 1
                self.assertEqual(message_in(link, bad), "check")

    def test_filling_behind_the_message(self):
        link = link_of(WIDE)
        for length in range(5):
            for place in range(4):
                content = [0] * 4
                content[place] = 128
                wanted = content[:length] if place < length else "filling"
                self.assertEqual(message_in(link, told_by_hand(WIDE, length, content)), wanted)

    def test_any_changes(self):
        source = random.Random(232)
        names = set()
        for fields in (PLAIN, WIDE, dict(WIDE, words=8, mix=("mix", 8, 7)), dict(WIDE, check=("check", 1, 3))):
            link = link_of(fields)
            for _ in range(200):
                told = message_bits(link, source.choice(messages(source, link.most_bytes())))
                for _ in range(source.randint(0, 3)):
                    told[source.randrange(len(told))] ^= 1
                names.add(str(self.read(fields, told)) if isinstance(self.read(fields, told), str) else "message")
                self.assertEqual(message_in(link, told), self.read(fields, told))
        self.assertEqual(names, {"filling", "check", "length", "message"})

    def read(self, fields, told):
        """The message in told bits, by the words of the interface."""
        link = link_of(fields)
        most, width = link.most_bytes(), fields["check"][1]
        many = 8 + 8 * most + width
        if 1 in told[many:]:
            return "filling"
        clear = [a ^ b for a, b in zip(told, key_by_hand(fields["scrambler"], many))]
        if any(rest_by_hand(fields["check"][2], clear)):
            return "check"
        numbers = [number_in(clear[at:at + 8]) for at in range(0, 8 + 8 * most, 8)]
        if numbers[0] > most:
            return "length"
        return "filling" if any(numbers[numbers[0] + 1:]) else numbers[1:numbers[0] + 1]


class Sent(unittest.TestCase):
    def test_words(self):
        source = random.Random(233)
        for fields in ALL:
            link = link_of(fields)
            _, m, _, n, k = fields["code"]
            for message in messages(source, link.most_bytes())[-2:]:
                words = words_for(link, message)
                self.assertEqual([len(word) for word in words], [n] * fields["words"])
                told = [bit for word in words for symbol in word[:k] for bit in bits_in(symbol, m)]
                self.assertEqual(told, message_bits(link, message))
                if n < 100:
                    for word in words:
                        self.assertFalse(any(signs_of(fields["code"], word)))

    def test_rows(self):
        source = random.Random(234)
        for fields in ALL:
            for runs in (1, 2, 3, 5, 7, 8):
                changed = dict(fields, runs=runs)
                link = link_of(changed)
                for message in messages(source, link.most_bytes())[-2:]:
                    rows = rows_for(link, message)
                    self.assertEqual(rows, rows_by_hand(changed, words_for(link, message)))
                    self.assertEqual([len(row) for row in rows], [link.blocks() * block_bits(fields["sender"])] * runs)

    def test_the_last_runs_are_filled_with_zeros(self):
        sender = ("sender", shift_machine((7, 5)), ((1, 1),) * 4, levels(2))
        rows = rows_for(link_of(PLAIN, sender=sender, runs=7), [255])
        # 60 bits: each run has room for 12 of them.
        self.assertEqual([len(row) for row in rows], [12] * 7)
        self.assertEqual(rows[5:], [[0] * 12] * 2)
        rows = rows_for(link_of(WIDE), [255] * 4)
        self.assertEqual([len(row) for row in rows], [16] * 4)
        self.assertEqual(rows[3][15:], [0])

    def test_points(self):
        source = random.Random(235)
        for fields in (PLAIN, WIDE, EMPTY, dict(WIDE, runs=1), dict(PLAIN, runs=8)):
            link = link_of(fields)
            for message in messages(source, link.most_bytes()):
                points = frame_points(link, message)
                self.assertEqual(points, points_by_hand(fields, rows_for(link, message)))
                self.assertEqual(len(points), link.frame_points())
        link = link_of(GREAT)
        self.assertEqual(len(frame_points(link, [1] * link.most_bytes())), link.frame_points())

    def test_samples(self):
        source = random.Random(236)
        for fields in (PLAIN, WIDE, dict(WIDE, slack=0)):
            link = link_of(fields)
            message = [source.randrange(256) for _ in range(link.most_bytes())]
            points = frame_points(link, message)
            for place in range(fields["slack"] + 1):
                for turn in range(4):
                    for number, line in enumerate(fields["lines"]):
                        around = [(0, 0)] * place + points + [(0, 0)] * (fields["slack"] - place)
                        wanted = smeared_by_hand(line, around)[:fields["slack"] + len(points)]
                        for _ in range(turn):
                            wanted = [(-y, x) for x, y in wanted]
                        told = frame_samples(link, message, place=place, turn=turn, number=number)
                        self.assertEqual(told, wanted)
                        self.assertEqual(len(told), link.many_samples())

    def test_the_opening_and_the_runs_stand_where_they_are_told(self):
        link = link_of(WIDE)
        message = [1, 200, 3]
        for place, turn, number in ((0, 0, 0), (4, 3, 1), (2, 1, 0)):
            samples = frame_samples(link, message, place=place, turn=turn, number=number)
            many = link.slack + len(link.opening)
            self.assertEqual(samples[:many], arrival(link.opening, link.lines, link.slack, (place, turn, number)))
            self.assertEqual(find(link.opening, link.lines, link.slack, samples), (place, turn, number))
            line = link.lines[number]
            for run, row in enumerate(rows_for(link, message)):
                start = place + link.run_start(run)
                heard = samples[start:start + link.run_points() + len(line[1]) - 1]
                clear = run_samples(link.sender, line, row)
                for _ in range(turn):
                    clear = [(-y, x) for x, y in clear]
                self.assertEqual(heard, clear)
                if turn == 0:
                    self.assertEqual(hear_run(link.sender, line, link.blocks(), heard)[0][:3], ("row", row, 0))


class Kept(unittest.TestCase):
    def test_arguments_stay_and_results_are_new(self):
        for fields in (PLAIN, WIDE):
            link = link_of(fields)
            for message in ([], [1]):
                for function in (message_bits, words_for, rows_for, frame_points):
                    stands_alone(self, lambda told, made=function: made(link, told), message)
                stands_alone(self, lambda told: frame_samples(link, told, place=1, turn=0, number=0), message)
                stands_alone(self, lambda row: message_in(link, row), message_bits(link, message))
            self.assertEqual({name: getattr(link, name) for name in fields}, fields)


if __name__ == "__main__":
    unittest.main()
