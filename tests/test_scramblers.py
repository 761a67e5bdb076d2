"""Points 12.4 to 12.6: scramblers and feeds."""

import random
import unittest
from itertools import product

from heardtrue.scramblers import check_feed, check_scrambler, fed, key_of, period, scrambled, unfed
from support import bits_in, fault, stands_alone

ANY = [None, True, False, 0, 1, -1, "", "scramble", "feed", [], (), {}, [0], ("feed",), ("scramble", 1), 1.0, b"feed"]


def scramblers(most):
    return [
        ("scramble", width, poly, start)
        for width in range(1, most + 1) for poly in range(2 ** width + 1, 2 ** (width + 1), 2) for start in range(1, 2 ** width)
    ]


def ahead(poly, width, row, at):
    """The sum of the bits that stand as many places ahead of a place as poly tells; ahead of the first one all are 0."""
    return sum(row[at - i] for i in range(1, width + 1) if poly >> i & 1 and at - i >= 0) % 2


def key_by_hand(scrambler, length):
    _, width, poly, start = scrambler
    key = bits_in(start, width)
    while len(key) < length:
        key.append(ahead(poly, width, key, len(key)))
    return key[:length]


class Scramblers(unittest.TestCase):
    def test_all_ranges(self):
        for width in range(-1, 19):
            for poly in list(range(-9, 40)) + [2 ** 16 + 1, 2 ** 16, 2 ** 17 - 1, 2 ** 17 + 1, -2 ** 16 - 1]:
                right = 1 <= width <= 16 and poly % 2 == 1 and 2 ** width < poly < 2 ** (width + 1)
                self.assertEqual(fault(check_feed, ("feed", width, poly)), None if right else "feed")
                for start in (-1, 0, 1, 2, 3, 4, 7, 8, 2 ** 16 - 1, 2 ** 16):
                    fits = right and 1 <= start < 2 ** width
                    self.assertEqual(fault(check_scrambler, ("scramble", width, poly, start)), None if fits else "scramble")

    def test_things_of_any_kind(self):
        one = ("scramble", 3, 11, 4)
        for thing in ANY + [list(one), one[:3], one + (0,), ("feed",) + one[1:], one[1:], ("feed", 3, 11)]:
            self.assertEqual(fault(check_scrambler, thing), "scramble", thing)
        for at in range(1, 4):
            for thing in (None, True, False, 3.0, "3", [3], (3,)):
                self.assertEqual(fault(check_scrambler, one[:at] + (thing,) + one[at + 1:]), "scramble")
        self.assertEqual(fault(check_scrambler, ("scramble", 1, 3, True)), "scramble")
        self.assertIsNone(fault(check_scrambler, ("scramble", 1, 3, 1)))
        one = ("feed", 3, 11)
        for thing in ANY + [list(one), one[:2], one + (0,), ("scramble",) + one[1:], one[1:], ("scramble", 3, 11, 1)]:
            self.assertEqual(fault(check_feed, thing), "feed", thing)
        for at in range(1, 3):
            for thing in (None, True, False, 3.0, "3", [3], (3,)):
                self.assertEqual(fault(check_feed, one[:at] + (thing,) + one[at + 1:]), "feed")

    def test_the_key_by_hand(self):
        one = ("scramble", 3, 11, 4)
        self.assertEqual(key_of(one, 8), [1, 0, 0, 1, 1, 1, 0, 1])
        self.assertEqual([key_of(one, length) for length in range(5)], [[], [1], [1, 0], [1, 0, 0], [1, 0, 0, 1]])
        self.assertEqual(key_of(("scramble", 1, 3, 1), 4), [1, 1, 1, 1])
        self.assertEqual(key_of(("scramble", 2, 5, 1), 6), [0, 1, 0, 1, 0, 1])

    def test_the_key_by_its_words(self):
        for scrambler in scramblers(5) + [("scramble", 16, 69665, 0x8001), ("scramble", 15, 2 ** 15 + 3, 77)]:
            for length in (0, 1, scrambler[1] - 1, scrambler[1], scrambler[1] + 1, 70):
                self.assertEqual(key_of(scrambler, length), key_by_hand(scrambler, length))

    def test_scrambling_twice(self):
        source = random.Random(180)
        for scrambler in scramblers(4):
            for many in (0, 1, scrambler[1], 30):
                row = [source.randrange(2) for _ in range(many)]
                told = scrambled(scrambler, row)
                self.assertEqual(told, [a ^ b for a, b in zip(row, key_by_hand(scrambler, many))])
                self.assertEqual(scrambled(scrambler, told), row)

    def test_the_period(self):
        self.assertEqual([period(("scramble", 3, 11, start)) for start in range(1, 8)], [7] * 7)
        self.assertEqual([period(("scramble", 1, 3, 1)), period(("scramble", 2, 5, 3)), period(("scramble", 2, 5, 1))], [1, 1, 2])
        self.assertEqual(period(("scramble", 4, 31, 1)), 5)
        self.assertEqual([period(("scramble", 16, poly, 1)) for poly in (69665, 69643)], [32767, 65535])
        short = 0
        for scrambler in scramblers(5):
            most = 2 ** scrambler[1] - 1
            key = key_by_hand(scrambler, 3 * most + 40)
            told = [p for p in range(1, most + 1) if key[:2 * most + 40] == key[p:p + 2 * most + 40]]
            self.assertEqual(period(scrambler), told[0])
            short += told[0] < most
        self.assertGreater(short, 100)


class Feeds(unittest.TestCase):
    def test_by_hand(self):
        self.assertEqual(fed(("feed", 2, 7), [1, 0, 0, 0]), [1, 1, 0, 1])
        self.assertEqual(unfed(("feed", 2, 7), [1, 1, 0, 1]), [1, 0, 0, 0])
        self.assertEqual(fed(("feed", 1, 3), [1, 1, 0, 1]), [1, 0, 0, 1])
        self.assertEqual([fed(("feed", 2, 7), []), unfed(("feed", 2, 7), [])], [[], []])

    def test_there_and_back(self):
        source = random.Random(181)
        for width in (1, 2, 3, 4, 16):
            for poly in range(2 ** width + 1, 2 ** (width + 1), max(2, 2 ** width // 8)):
                for many in (0, 1, 2, width, 3 * width, 40):
                    feed = ("feed", width, poly)
                    row = [source.randrange(2) for _ in range(many)]
                    out = []
                    for at, bit in enumerate(row):
                        out.append((bit + ahead(poly, width, out, at)) % 2)
                    self.assertEqual(fed(feed, row), out)
                    self.assertEqual(unfed(feed, out), row)
                    told = [(bit + ahead(poly, width, row, at)) % 2 for at, bit in enumerate(row)]
                    self.assertEqual(unfed(feed, row), told)
                    self.assertEqual(fed(feed, told), row)

    def test_what_one_wrong_bit_makes_wrong(self):
        source = random.Random(182)
        for width, poly in product((1, 2, 3, 5), (3, 5, 7, 11, 13, 33, 59)):
            feed = ("feed", width, poly)
            if fault(check_feed, feed) is None:
                row = [source.randrange(2) for _ in range(12)]
                for place in range(12):
                    heard = fed(feed, row)
                    heard[place] ^= 1
                    wrong = [at for at, (a, b) in enumerate(zip(unfed(feed, heard), row)) if a != b]
                    wanted = [place] + [place + i for i in range(1, width + 1) if poly >> i & 1]
                    self.assertEqual(wrong, [at for at in wanted if at < 12])


class Kept(unittest.TestCase):
    def test_arguments_stay_and_results_are_new(self):
        one, feed = ("scramble", 3, 11, 4), ("feed", 3, 11)
        stands_alone(self, check_scrambler, one)
        stands_alone(self, check_feed, feed)
        for length in (0, 2, 9):
            stands_alone(self, key_of, one, length)
        stands_alone(self, period, one)
        for row in ([], [1], [1, 0, 1, 1, 0]):
            for function, shape in ((scrambled, one), (fed, feed), (unfed, feed)):
                stands_alone(self, function, shape, row)


if __name__ == "__main__":
    unittest.main()
