"""Points 12.1 to 12.3: checks, and what they do not see."""

import random
import unittest
from itertools import combinations, product

from heardtrue.checks import check_bits, check_check, fewest_unseen, is_right, span
from support import bits_in, fault, stands_alone

ANY = [None, True, False, 0, 1, -1, "", "check", [], (), {}, [0], ("check",), ("check", 1), 1.0, b"check"]
CHECKS = [("check", 1, 3), ("check", 2, 7), ("check", 2, 5), ("check", 3, 11), ("check", 3, 15), ("check", 4, 19),
          ("check", 4, 31), ("check", 5, 33), ("check", 8, 263), ("check", 10, 1587), ("check", 16, 69665)]


def rest_by_hand(poly, row):
    """The rest of a row by long division, as a list of bits, one less than the poly has."""
    divisor = bits_in(poly, poly.bit_length())
    left = [0] * len(divisor) + list(row)
    for at in range(len(left) - len(divisor) + 1):
        if left[at]:
            for place, bit in enumerate(divisor):
                left[at + place] ^= bit
    return left[len(left) - len(divisor) + 1:]


def any_rows(source, many, most):
    return [[source.randrange(2) for _ in range(source.randint(0, most))] for _ in range(many)]


def unseen_by_hand(check, length):
    """The fewest ones of a spoiling that is not seen, and the least list, by trying all with as many."""
    for ones in range(1, length + 1):
        found = []
        for places in combinations(range(length), ones):
            row = [1 if at in places else 0 for at in range(length)]
            if not any(rest_by_hand(check[2], row)):
                found.append(row)
        if found:
            return ones, min(found)
    return None


class Checks(unittest.TestCase):
    def test_all_ranges(self):
        for width in range(-1, 19):
            for poly in list(range(-9, 70)) + [2 ** 16 + 1, 2 ** 16 + 2, 2 ** 17 - 1, 2 ** 17 + 1, 2 ** 15 + 1, -2 ** 16 - 1]:
                right = 1 <= width <= 16 and poly % 2 == 1 and 2 ** width < poly < 2 ** (width + 1)
                self.assertEqual(fault(check_check, ("check", width, poly)), None if right else "check", (width, poly))

    def test_things_of_any_kind(self):
        for thing in ANY + [["check", 3, 11], ("check", 3, 11, 0), ("checks", 3, 11), (3, 11), ("check", 3.0, 11),
                            ("check", 3, 11.0), ("check", "3", 11), ("check", True, 3), ("check", 1, True), ("check", None, 3),
                            ("check", 3, None), ("check", [3], 11), ("scramble", 3, 11)]:
            self.assertEqual(fault(check_check, thing), "check", thing)

    def test_by_hand(self):
        self.assertEqual(check_bits(("check", 3, 11), [1, 0, 1, 1]), [0, 0, 0])
        self.assertEqual(check_bits(("check", 3, 11), [1]), [0, 1, 1])
        self.assertEqual(check_bits(("check", 1, 3), [1, 1, 1]), [1])
        for check in CHECKS:
            self.assertEqual(check_bits(check, []), [0] * check[1])
            self.assertEqual(check_bits(check, [0] * 40), [0] * check[1])
            self.assertEqual(check_bits(check, [1]), bits_in(check[2], check[1]))

    def test_by_long_division(self):
        source = random.Random(170)
        any_ones = [("check", width, 2 ** width + 2 * source.randrange(2 ** (width - 1)) + 1) for width in range(1, 17)]
        for check in CHECKS + any_ones:
            self.assertIsNone(fault(check_check, check))
            _, width, poly = check
            for row in any_rows(source, 40, 60):
                self.assertEqual(check_bits(check, row), rest_by_hand(poly, row + [0] * width))
                row = row + [source.randrange(2) for _ in range(width)]
                self.assertIs(is_right(check, row), not any(rest_by_hand(poly, row)))

    def test_its_own_check_and_no_other(self):
        source = random.Random(171)
        for check in CHECKS[:7]:
            for row in any_rows(source, 12, 20):
                for bits in product(range(2), repeat=check[1]):
                    self.assertIs(is_right(check, row + list(bits)), list(bits) == check_bits(check, row))

    def test_the_shortest_rows(self):
        for check in CHECKS:
            self.assertIs(is_right(check, [0] * check[1]), True)
            self.assertIs(is_right(check, [0] * (check[1] - 1) + [1]), False)
            self.assertIs(is_right(check, bits_in(check[2], check[1] + 1)), True)


class Unseen(unittest.TestCase):
    def test_it_does_not_depend_on_the_row(self):
        source = random.Random(172)
        for check in CHECKS:
            for row in any_rows(source, 20, 20):
                right = row + check_bits(check, row)
                spoiling = [source.randrange(2) for _ in right]
                if source.random() < 0.5:
                    spoiling = spoiling[:len(row)] + check_bits(check, spoiling[:len(row)])
                spoilt = [a ^ b for a, b in zip(right, spoiling)]
                self.assertIs(is_right(check, spoilt), is_right(check, spoiling))

    def test_span(self):
        self.assertEqual([span(("check", 1, 3)), span(("check", 2, 7)), span(("check", 2, 5))], [1, 3, 2])
        self.assertEqual([span(("check", 3, 11)), span(("check", 3, 15)), span(("check", 5, 33))], [7, 4, 5])
        self.assertEqual([span(("check", 16, 69665)), span(("check", 16, 69643))], [32767, 65535])
        for check in CHECKS[:9]:
            least = span(check)
            for far in range(1, 2 * least + 2):
                self.assertIs(is_right(check, [1] + [0] * (far - 1) + [1] + [0] * check[1]), far % least == 0)

    def test_one_is_always_seen(self):
        for check in CHECKS:
            for place in range(40):
                self.assertIs(is_right(check, [1 if at == place else 0 for at in range(40)]), False)

    def test_ones_near_together(self):
        for check in CHECKS[:8]:
            _, width, poly = check
            for number in range(1, 2 ** (width + 1)):
                row = [0, 0] + bits_in(number, width + 1) + [0] * 3
                self.assertIs(is_right(check, row), number == poly)


class Fewest(unittest.TestCase):
    def test_by_hand(self):
        check = ("check", 3, 11)
        self.assertEqual([fewest_unseen(check, length) for length in (1, 2, 3)], [None] * 3)
        self.assertEqual(fewest_unseen(check, 4), (3, [1, 0, 1, 1]))
        self.assertEqual(fewest_unseen(check, 8), (2, [1, 0, 0, 0, 0, 0, 0, 1]))
        self.assertEqual(fewest_unseen(check, 200), (2, [0] * 192 + [1, 0, 0, 0, 0, 0, 0, 1]))
        self.assertEqual(fewest_unseen(("check", 1, 3), 1), None)
        self.assertEqual(fewest_unseen(("check", 1, 3), 200), (2, [0] * 198 + [1, 1]))

    def test_of_all_spoilings(self):
        for width in range(1, 6):
            for poly in range(2 ** width + 1, 2 ** (width + 1), 2):
                for length in list(range(1, 10)) + [12]:
                    check = ("check", width, poly)
                    self.assertEqual(fewest_unseen(check, length), unseen_by_hand(check, length), (check, length))

    def test_of_longer_ones(self):
        for check, length in ((("check", 8, 263), 30), (("check", 8, 285), 24), (("check", 10, 1587), 26),
                              (("check", 6, 67), 40), (("check", 7, 0x91), 35)):
            self.assertEqual(fewest_unseen(check, length), unseen_by_hand(check, length))

    def test_that_it_is_not_seen(self):
        for check in CHECKS[:10]:
            for length in (check[1], check[1] + 1, 50, 199, 200):
                told = fewest_unseen(check, length)
                if length <= check[1]:
                    self.assertIsNone(told)
                    continue
                ones, row = told
                self.assertEqual((len(row), sum(row)), (length, ones))
                self.assertIs(is_right(check, row), True)
                self.assertEqual(ones == 2, length > span(check))


class Kept(unittest.TestCase):
    def test_arguments_stay_and_results_are_new(self):
        check = ("check", 3, 11)
        stands_alone(self, check_check, check)
        stands_alone(self, check_bits, check, [1, 0, 0])
        stands_alone(self, is_right, check, [1, 0, 0, 1])
        stands_alone(self, span, check)
        stands_alone(self, fewest_unseen, check, 9)
        stands_alone(self, fewest_unseen, check, 3)


if __name__ == "__main__":
    unittest.main()
