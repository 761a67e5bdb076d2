"""Points 11.1 to 11.4: mixes and delays."""

import unittest
from itertools import product

from heardtrue.mixing import check_delays, check_mix, delayed, most_hit, order_of, undelayed, worst
from support import fault, stands_alone

ANY = [None, True, False, 0, 1, -1, "", "mix", [], (), {}, [0], ("mix",), ("mix", 1), ("delays", 1), 1.0, b"mix"]


def mixes(words, n):
    return [("mix", rows, words * n // rows) for rows in range(1, words * n + 1) if words * n % rows == 0]


def sizes():
    # In some of the last ones the worst stretch is not the first one.
    return [(words, n) for words in range(1, 5) for n in range(1, 7)] + [(3, 8), (4, 9), (5, 7), (6, 8)]


class Mixes(unittest.TestCase):
    def test_right_and_wrong_ones(self):
        for words, n in sizes():
            for rows, columns in product(range(-2, 10), repeat=2):
                right = rows >= 1 and columns >= 1 and rows * columns == words * n
                self.assertEqual(fault(check_mix, ("mix", rows, columns), words, n), None if right else "mix")

    def test_things_of_any_kind(self):
        for thing in ANY + [["mix", 2, 3], ("mix", 2, 3, 1), ("mixes", 2, 3), (2, 3), ("mix", "2", 3), ("mix", 2.0, 3),
                            ("mix", 2, None), ("mix", [2], 3), ("mix", -2, -3)]:
            self.assertEqual(fault(check_mix, thing, 2, 3), "mix", thing)
        self.assertEqual(fault(check_mix, ("mix", True, 6), 2, 3), "mix")
        self.assertEqual(fault(check_mix, ("mix", 1, True), 1, 1), "mix")
        self.assertIsNone(fault(check_mix, ("mix", 1, 1), 1, 1))

    def test_the_order(self):
        self.assertEqual(order_of(("mix", 1, 4), 2, 2), [(0, 0), (0, 1), (1, 0), (1, 1)])
        self.assertEqual(order_of(("mix", 4, 1), 2, 2), [(0, 0), (0, 1), (1, 0), (1, 1)])
        self.assertEqual(order_of(("mix", 2, 2), 2, 2), [(0, 0), (1, 0), (0, 1), (1, 1)])
        self.assertEqual(order_of(("mix", 3, 2), 2, 3), [(0, 0), (0, 2), (1, 1), (0, 1), (1, 0), (1, 2)])
        for words, n in sizes():
            symbols = [(word, place) for word in range(words) for place in range(n)]
            for mix in mixes(words, n):
                _, rows, columns = mix
                table = [symbols[at:at + columns] for at in range(0, len(symbols), columns)]
                self.assertEqual(order_of(mix, words, n), [row[column] for column in range(columns) for row in table])

    def test_each_symbol_is_sent_once(self):
        for words, n in sizes():
            for mix in mixes(words, n):
                told = order_of(mix, words, n)
                self.assertEqual(sorted(told), [(word, place) for word in range(words) for place in range(n)])


class Hits(unittest.TestCase):
    def test_all_stretches(self):
        for words, n in ((1, 1), (1, 4), (2, 3), (3, 4), (4, 3)):
            for mix in mixes(words, n):
                order = [word for word, _ in order_of(mix, words, n)]
                for first in range(words * n + 1):
                    for last in range(first, words * n + 1):
                        told = most_hit(mix, words, n, first, last)
                        self.assertEqual(told, [order[first:last].count(word) for word in range(words)])
                self.assertEqual(most_hit(mix, words, n, 0, words * n), [n] * words)
                self.assertEqual(most_hit(mix, words, n, 1, 1), [0] * words)

    def test_the_worst_stretch(self):
        for words, n in sizes():
            for mix in mixes(words, n):
                for length in range(1, words * n + 1):
                    told = [most_hit(mix, words, n, at, at + length) for at in range(words * n - length + 1)]
                    self.assertEqual(worst(mix, words, n, length), max(map(max, told)))

    def test_if_each_row_is_one_word(self):
        for words, n in sizes():
            for length in range(1, words * n + 1):
                self.assertEqual(worst(("mix", words, n), words, n, length), -(-length // words))
        self.assertEqual(worst(("mix", 8, 255), 8, 255, 100), 13)


class Delays(unittest.TestCase):
    def test_right_and_wrong_ones(self):
        for branches, step in product((-1, 0, 1, 2, 15, 16, 17, 99), repeat=2):
            right = 1 <= branches <= 16 and 1 <= step <= 16
            self.assertEqual(fault(check_delays, ("delays", branches, step)), None if right else "delays")
        for thing in ANY + [["delays", 2, 3], ("delays", 2, 3, 1), ("delay", 2, 3), (2, 3), ("delays", "2", 3),
                            ("delays", 2.0, 3), ("delays", 2, None), ("delays", True, 3), ("delays", 2, True)]:
            self.assertEqual(fault(check_delays, thing), "delays", thing)

    def test_by_hand(self):
        self.assertEqual(delayed(("delays", 2, 1), [5, 6, 7, 8]), [5, 0, 7, 6, 0, 8])
        self.assertEqual(delayed(("delays", 2, 1), []), [0, 0])
        self.assertEqual(delayed(("delays", 1, 9), [5, 6, 7]), [5, 6, 7])
        self.assertEqual(delayed(("delays", 1, 9), []), [])
        self.assertEqual(delayed(("delays", 3, 1), [5]), [5, 0, 0, 0, 0, 0, 0])
        self.assertEqual(delayed(("delays", 2, 2), [5, 6, 7]), [5, 0, 7, 0, 0, 6, 0])

    def test_places(self):
        for branches, step in product(range(1, 6), range(1, 5)):
            for many in (0, 1, 2, branches, 3 * branches + 1, 40):
                row = list(range(1, many + 1))
                told = delayed(("delays", branches, step), row)
                self.assertEqual(len(told), many + step * branches * (branches - 1))
                wanted = {i + step * branches * (i % branches): i + 1 for i in range(many)}
                self.assertEqual(len(wanted), many)
                self.assertEqual(told, [wanted.get(at, 0) for at in range(len(told))])
                self.assertEqual(undelayed(("delays", branches, step), told), row)
                # What stands at the other places plays no part.
                filled = [wanted.get(at, 99 + at) for at in range(len(told))]
                self.assertEqual(undelayed(("delays", branches, step), filled), row)

    def test_the_greatest_ones(self):
        row = list(range(1, 400))
        told = delayed(("delays", 16, 16), row)
        self.assertEqual(len(told), 399 + 16 * 16 * 15)
        self.assertEqual(undelayed(("delays", 16, 16), told), row)

    def test_distances(self):
        for branches, step in product(range(2, 7), range(1, 4)):
            row = list(range(1, 4 * branches + 1))
            told = delayed(("delays", branches, step), row)
            for i in range(3 * branches):
                for d in range(1, branches):
                    far = abs(told.index(i + d + 1) - told.index(i + 1))
                    if i % branches < branches - d:
                        self.assertEqual(far, d * (1 + step * branches))
                    else:
                        self.assertEqual(far, step * branches * (branches - d) - d)


class Kept(unittest.TestCase):
    def test_arguments_stay_and_results_are_new(self):
        stands_alone(self, check_mix, ("mix", 2, 3), 2, 3)
        stands_alone(self, order_of, ("mix", 2, 3), 2, 3)
        stands_alone(self, most_hit, ("mix", 2, 3), 2, 3, 1, 4)
        stands_alone(self, worst, ("mix", 2, 3), 2, 3, 2)
        stands_alone(self, check_delays, ("delays", 2, 3))
        stands_alone(self, delayed, ("delays", 2, 3), [1, 2, 3])
        stands_alone(self, delayed, ("delays", 1, 1), [1, 2, 3])
        stands_alone(self, undelayed, ("delays", 2, 1), [1, 2, 3, 4])
        stands_alone(self, undelayed, ("delays", 1, 1), [1, 2, 3])


if __name__ == "__main__":
    unittest.main()
