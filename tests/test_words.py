"""Points 10.1 to 10.5: words of a code, and how they are mended."""

import random
import unittest
from itertools import combinations, product

from heardtrue.words import check_words, encode, is_mended, is_word, mend, signs
from slowfields import ANY, primitive, signs_of, words_of
from support import fault, stands_alone

TINY = [("words", 2, 7, 2, 1), ("words", 2, 7, 3, 1), ("words", 2, 7, 3, 2)]
SMALL = TINY + [("words", 3, 11, 4, 1), ("words", 3, 13, 4, 2), ("words", 3, 11, 4, 3)]
CODE = ("words", 3, 11, 7, 3)
FULL = ("words", 8, 285, 255, 223)


def spoilt(source, code, word, wrong, gaps):
    """A word with so many wrong symbols, and so many gaps at which anything stands; and both lists of places."""
    places = source.sample(range(code[3]), wrong + gaps)
    row = list(word)
    for place in places[:wrong]:
        row[place] ^= source.randrange(1, 2 ** code[1])
    for place in places[wrong:]:
        row[place] = source.randrange(2 ** code[1])
    return row, sorted(places[:wrong]), sorted(places[wrong:])


class Codes(unittest.TestCase):
    def test_right_ones(self):
        for code in SMALL + [CODE, FULL, ("words", 8, 285, 255, 254), ("words", 8, 285, 255, 1), ("words", 8, 285, 2, 1)]:
            self.assertIsNone(fault(check_words, code), code)

    def test_all_ranges(self):
        for m in range(0, 11):
            for poly in (7, 11, 13, 15, 19, 285, 283, 529, 1033):
                for n in (-1, 0, 1, 2, 3, 4, 7, 8, 15, 16, 255, 256):
                    for k in (-1, 0, 1, 2, n - 2, n - 1, n, n + 1):
                        right = 2 <= m <= 8 and primitive(m, poly) and 2 <= n <= 2 ** m - 1 and 1 <= k <= n - 1
                        self.assertEqual(fault(check_words, ("words", m, poly, n, k)), None if right else "words")

    def test_things_of_any_kind(self):
        for thing in ANY + [list(CODE), CODE[:4], CODE + (1,), ("word",) + CODE[1:], (0,) + CODE[1:]]:
            self.assertEqual(fault(check_words, thing), "words", thing)
        for at in range(5):
            for thing in ANY:
                wrong = CODE[:at] + (thing,) + CODE[at + 1:]
                # A code with one told symbol is right, and the name is right at its place.
                right = (at == 0 and thing == "words") or (at == 4 and type(thing) is int and thing == 1)
                self.assertEqual(fault(check_words, wrong), None if right else "words", wrong)
        for wrong in (("words", 2, 7, 3, True), ("words", 2, 7, 3.0, 1), ("words", 2.0, 7, 3, 1)):
            self.assertEqual(fault(check_words, wrong), "words")


class Words(unittest.TestCase):
    def test_the_only_word_of_each_row(self):
        for code in SMALL:
            words = words_of(code)
            _, m, _, n, k = code
            self.assertEqual(len(words), 2 ** (m * k))
            for symbols, word in zip(product(range(2 ** m), repeat=k), words):
                self.assertEqual(word[:k], list(symbols))
                self.assertEqual(encode(code, list(symbols)), word)

    def test_words_differ(self):
        for code in SMALL + [("words", 3, 11, 5, 2)]:
            words = words_of(code)
            far = [sum(a != b for a, b in zip(one, other)) for one, other in combinations(words, 2)]
            self.assertEqual(min(far), code[3] - code[4] + 1)
            for one in words[:5]:
                far = [sum(a != b for a, b in zip(one, other)) for other in words if other != one]
                self.assertEqual(min(far), code[3] - code[4] + 1)

    def test_is_word(self):
        for code in TINY:
            words = words_of(code)
            for row in product(range(2 ** code[1]), repeat=code[3]):
                self.assertIs(is_word(code, list(row)), list(row) in words)
        word = encode(CODE, [1, 0, 0])
        self.assertIs(is_word(CODE, word), True)
        for thing in ANY + [tuple(word), word[:6], word + [0], [True] + word[1:], [False] * 7, [1.0] + word[1:],
                            [9] + word[1:], [-1] + word[1:], [None] + word[1:], [1, False] + word[2:], [[1]] + word[1:]]:
            self.assertIs(is_word(CODE, thing), False, thing)
        self.assertIs(is_word(CODE, [0] * 7), True)

    def test_signs(self):
        source = random.Random(160)
        for code in SMALL + [CODE, ("words", 5, 37, 20, 9), ("words", 8, 285, 40, 4)]:
            for _ in range(10):
                row = [source.randrange(2 ** code[1]) for _ in range(code[3])]
                self.assertEqual(signs(code, row), signs_of(code, row))
                self.assertEqual(len(signs(code, row)), code[3] - code[4])
                word = encode(code, row[:code[4]])
                self.assertEqual(signs(code, word), [0] * (code[3] - code[4]))
        # The last symbol is the lowest coefficient.
        self.assertEqual(signs(CODE, [0, 0, 0, 0, 0, 0, 3]), [3, 3, 3, 3])
        self.assertEqual(signs(CODE, [0, 0, 0, 0, 0, 1, 0]), [2, 4, 3, 6])


class Mending(unittest.TestCase):
    def test_every_row_and_all_gaps(self):
        for code in TINY:
            words = words_of(code)
            for row in product(range(2 ** code[1]), repeat=code[3]):
                for many in range(code[3] + 1):
                    for gaps in combinations(range(code[3]), many):
                        self.check(code, words, list(row), list(gaps))

    def test_any_rows_of_small_codes(self):
        source = random.Random(161)
        kinds = set()
        for code in SMALL + [("words", 3, 11, 5, 2), ("words", 3, 13, 5, 1)]:
            words = words_of(code)
            for _ in range(150):
                row = [source.randrange(2 ** code[1]) for _ in range(code[3])]
                if source.random() < 0.6:
                    row = source.choice(words)[:]
                    row[source.randrange(code[3])] = source.randrange(2 ** code[1])
                gaps = sorted(source.sample(range(code[3]), source.randint(0, code[3])))
                told = self.check(code, words, row, gaps)
                kinds.add(None if told is None else (len(told[1]), len(gaps)))
        self.assertLessEqual({None, (0, 0), (1, 0), (1, 1), (0, 2), (2, 0), (1, 2)}, kinds)

    def check(self, code, words, row, gaps):
        fits = []
        for word in words:
            wrong = [at for at in range(code[3]) if at not in gaps and row[at] != word[at]]
            mends = 2 * len(wrong) + len(gaps) <= code[3] - code[4]
            self.assertIs(is_mended(code, row, gaps, word), mends)
            if mends:
                fits.append((word, wrong, gaps))
        self.assertLessEqual(len(fits), 1)
        told = mend(code, row, gaps)
        self.assertEqual(told, fits[0] if fits else None)
        return told

    def test_up_to_the_bound_and_just_beyond_it(self):
        source = random.Random(162)
        lost = 0
        for code in (CODE, ("words", 3, 13, 7, 1), ("words", 4, 19, 15, 5), ("words", 4, 25, 12, 5), ("words", 5, 37, 31, 20),
                     ("words", 8, 285, 30, 9)):
            _, m, _, n, k = code
            for _ in range(12):
                word = encode(code, [source.randrange(2 ** m) for _ in range(k)])
                for wrong in range((n - k) // 2 + 1):
                    gaps = n - k - 2 * wrong
                    for many in (0, gaps // 2, gaps):
                        row, places, told = spoilt(source, code, word, wrong, many)
                        self.assertEqual(mend(code, row, told), (word, places, told))
                        self.assertIs(is_mended(code, row, told, word), True)
                    if wrong + gaps + 1 <= n:
                        row, places, told = spoilt(source, code, word, wrong, gaps + 1)
                        self.assertIs(is_mended(code, row, told, word), False)
                        found = mend(code, row, told)
                        self.assertTrue(found is None or found[0] != word)
                        lost += found is None
                row, places, told = spoilt(source, code, word, (n - k) // 2 + 1, 0)
                found = mend(code, row, told)
                self.assertTrue(found is None or found[0] != word and is_mended(code, row, [], found[0]))
                lost += found is None
        self.assertGreater(lost, 50)

    def test_another_word_mends_the_row(self):
        source = random.Random(163)
        word = encode(CODE, [3, 1, 4])
        words = [encode(CODE, list(symbols)) for symbols in product(range(8), repeat=3)]
        near = [other for other in words if sum(a != b for a, b in zip(word, other)) == 5]
        for other in source.sample(near, 20):
            places = [at for at in range(7) if word[at] != other[at]]
            # Three of the five symbols are already those of the other word.
            row = [other[at] if at in places[:3] else word[at] for at in range(7)]
            self.assertEqual(mend(CODE, row, []), (other, places[3:], []))
            self.assertIs(is_mended(CODE, row, [], word), False)
            self.assertEqual(mend(CODE, row, places[:2]), (word, places[2:3], places[:2]))
            self.assertEqual(mend(CODE, row, places[3:4]), (other, places[4:], places[3:4]))

    def test_what_stands_in_gaps_does_not_count(self):
        word = encode(CODE, [1, 2, 3])
        for symbols in product((0, 5, 7), repeat=4):
            row = list(symbols) + word[4:]
            self.assertEqual(mend(CODE, row, [0, 1, 2, 3]), (word, [], [0, 1, 2, 3]))
        self.assertIsNone(mend(CODE, word, [0, 1, 2, 3, 4]))
        self.assertIsNone(mend(CODE, word, list(range(7))))
        self.assertEqual(mend(CODE, word, [6]), (word, [], [6]))

    def test_nothing_wrong(self):
        for code in SMALL + [CODE, FULL]:
            word = encode(code, [1] * code[4])
            self.assertEqual(mend(code, word, []), (word, [], []))
            self.assertEqual(mend(code, [0] * code[3], []), ([0] * code[3], [], []))

    def test_words_of_255_symbols(self):
        source = random.Random(164)
        for code in (FULL, ("words", 8, 285, 255, 1), ("words", 8, 285, 255, 254), ("words", 8, 361, 255, 128)):
            word = encode(code, [source.randrange(256) for _ in range(code[4])])
            self.assertIs(is_word(code, word), True)
            parity = 255 - code[4]
            for wrong in (0, parity // 4, parity // 2):
                row, places, gaps = spoilt(source, code, word, wrong, parity - 2 * wrong)
                self.assertEqual(mend(code, row, gaps), (word, places, gaps))
            row, _, _ = spoilt(source, code, word, min(255, parity // 2 + 1), 0)
            told = mend(code, row, [])
            self.assertTrue(told is None or told[0] != word)

    def test_is_mended_for_things_of_any_kind(self):
        word = encode(CODE, [1, 0, 0])
        row = [1, 0, 5, 6, 1, 6, 3]
        self.assertIs(is_mended(CODE, row, [], word), True)
        for thing in ANY + [tuple(word), word[:6], word + [0], [True] + word[1:], [1, False] + word[2:], row, [0] * 7,
                            [8] + word[1:], encode(CODE, [1, 0, 5])]:
            self.assertIs(is_mended(CODE, row, [], thing), False, thing)
        self.assertIs(is_mended(CODE, word, [], word), True)


class Kept(unittest.TestCase):
    def test_arguments_stay_and_results_are_new(self):
        word = encode(CODE, [1, 2, 3])
        stands_alone(self, check_words, CODE)
        stands_alone(self, encode, CODE, [1, 2, 3])
        stands_alone(self, is_word, CODE, word)
        stands_alone(self, signs, CODE, word)
        for row, gaps in ((word, []), (word, [1, 2]), ([1] + word[1:], [3]), ([0, 0] + word[2:], []), (word[::-1], [])):
            stands_alone(self, mend, CODE, row, gaps)
            stands_alone(self, is_mended, CODE, row, gaps, word)


if __name__ == "__main__":
    unittest.main()
