"""Points 24.1 to 24.3: prices of bits."""

import copy
import random
import unittest

from heardtrue.distances import distance, halfway
from heardtrue.lines import spoiled
from heardtrue.machines import shift_machine
from heardtrue.potentials import potentials_of
from heardtrue.prices import bit_distance, check_prices, prices, prices_paper
from heardtrue.runs import hear_run, run_samples
from heardtrue.smears import run_size, trellis_of
from heardtrue.symbols import levels, square
from heardtrue.trellises import cost_of
from slow import HALF, LONE, SHIFT, any_samples, cases, cost_by_hand
from support import any_points, block_bits, changeable, fault, line_of, stands_alone

ONE, LINE = line_of((1, 0)), line_of((1, 0), (1, 0))
ANY = [None, True, False, 0, 1, "", "prices", [], (), {}, [0], [[0]], ("prices",), ["prices", [[0]], [[0]], []], ("prices", [], [], []),
       ("prices", None, None, None), 1.0, b"prices"]


def price_cases(seed, many):
    return [case for case in cases(seed, many) if case[2] > 0]


def prices_by_hand(slow, samples):
    """Point 24.1, with all rows."""
    costs = [(row, cost_by_hand(samples, run[3])) for row, run in zip(slow.rows(), slow.runs)]
    return [
        tuple(min(spent for row, spent in costs if row[place] == value) for value in (0, 1)) for place in range(len(costs[0][0]))
    ]


def bit_of(slow, labels, place):
    bits = block_bits(slow.sender)
    return labels[place // bits] // 2 ** (bits - 1 - place % bits) % 2


def is_right_ahead(trellis, table):
    """The words of point 24.2 on the table `ahead`, for a table of the right form."""
    _, _, layers, ends = trellis
    if any(table[-1][end] is None or table[-1][end] > 0 for end in ends):
        return False
    for at, layer in enumerate(layers):
        for room, after, _, cost in layer:
            told = table[at + 1][after]
            if told is not None and (table[at][room] is None or table[at][room] > told + cost):
                return False
    return True


class Prices(unittest.TestCase):
    def test_by_hand(self):
        sender = ("sender", shift_machine((1,)), ((1,),), levels(1))
        self.assertEqual(prices(sender, LINE, 2, [(1, 0), (0, 0), None]), [(4, 0), (0, 4)])
        self.assertEqual(prices(LONE, ONE, 3, [(3, 0), (0, 1), None]), [(18, 6), (6, 6), (6, 6)])
        # A tie as a whole, but the first two bits are heard.
        self.assertEqual(hear_run(LONE, ONE, 3, [(3, 0), (-1, 1), None])[0][0], "tie")
        self.assertEqual(prices(LONE, ONE, 3, [(3, 0), (-1, 1), None]), [(17, 5), (5, 9), (5, 5)])

    def test_all_places_as_all_rows_tell(self):
        source = random.Random(460)
        ties = 0
        for sender, line, blocks, slow in price_cases(461, 50):
            for samples in (any_samples(source, slow.size()), [None] * slow.size(), source.choice(slow.runs)[3]):
                told = prices(sender, line, blocks, samples)
                self.assertEqual(told, prices_by_hand(slow, samples))
                verdict = hear_run(sender, line, blocks, samples)[0]
                for (zero, one), bit in zip(told, verdict[1]):
                    self.assertLessEqual(*((zero, one) if bit == 0 else (one, zero)))
                if verdict[0] == "row" and verdict[3] is not None:
                    self.assertEqual([0 if zero < one else 1 for zero, one in told], verdict[1])
                    self.assertEqual(min(abs(zero - one) for zero, one in told), verdict[3])
                elif verdict[0] == "tie":
                    ties += any(zero != one for zero, one in told)
        self.assertGreater(ties, 5)

    def test_samples(self):
        for sender in (LONE, HALF, SHIFT):
            right = run_size(sender, LINE, 2)
            paper = prices_paper(sender, LINE, 2, [(0, 0)] * right)
            for many in list(range(right)) + [right + 1, right + 4]:
                self.assertEqual(fault(prices, sender, LINE, 2, [(0, 0)] * many), "samples")
                self.assertEqual(fault(prices_paper, sender, LINE, 2, [(0, 0)] * many), "samples")
                for thing in [paper] + ANY:
                    self.assertEqual(fault(check_prices, sender, LINE, 2, [(0, 0)] * many, thing), "samples")


class Papers(unittest.TestCase):
    def test_by_hand(self):
        samples = [(1, 0), (0, 0)]
        paper = ("prices", [[0], [0], [1], [1]], [[1], [1], [0], [0]], [([0, 0, 0], [1, 0, 0]), ([1, 0, 0], [1, 1, 0])])
        self.assertEqual(prices_paper(LONE, ONE, 2, samples)[:3], paper[:3])
        self.assertEqual(check_prices(LONE, ONE, 2, samples, paper), [(5, 1), (1, 1)])
        # Other paths with the same costs.
        for zero, one in (([0, 1, 0], [1, 1, 0]), ([0, 0, 0], [1, 1, 0])):
            told = paper[:3] + ([(zero, one), paper[3][1]],)
            self.assertEqual(check_prices(LONE, ONE, 2, samples, told), [(5, 1), (1, 1)])
        # Paths that cost more, or whose bit is the other one.
        for pair in (([0, 0, 0], [0, 1, 0]), ([0, 0, 0], [0, 0, 0]), ([1, 0, 0], [1, 0, 0]), ([1, 0, 0], [0, 0, 0])):
            for rows in ([pair, paper[3][1]], [paper[3][0], (pair[1], pair[0])]):
                self.assertIsNone(check_prices(LONE, ONE, 2, samples, paper[:3] + (rows,)))

    def test_the_paper_is_taken_and_shows_them(self):
        source = random.Random(462)
        for sender, line, blocks, slow in price_cases(463, 50):
            for samples in (any_samples(source, slow.size()), [None] * slow.size(), source.choice(slow.runs)[3]):
                paper = prices_paper(sender, line, blocks, samples)
                told = prices_by_hand(slow, samples)
                self.assertEqual(check_prices(sender, line, blocks, samples, paper), told)
                trellis = trellis_of(sender, line, blocks, samples)
                self.assertEqual(paper[:2], ("prices", potentials_of(trellis)))
                self.assertTrue(is_right_ahead(trellis, paper[2]))
                for place, pair in enumerate(paper[3]):
                    self.assertEqual(tuple(cost_of(trellis, labels) for labels in pair), told[place])
                    self.assertEqual([bit_of(slow, labels, place) for labels in pair], [0, 1])

    def test_things_of_any_kind(self):
        source = random.Random(464)
        for sender, line, blocks, slow in price_cases(465, 6):
            samples = any_samples(source, slow.size())
            paper = prices_paper(sender, line, blocks, samples)
            for thing in ANY + [list(paper), paper[:3], paper + (0,), ("Prices",) + paper[1:]]:
                self.assertIsNone(check_prices(sender, line, blocks, samples, thing))
            for at in range(4):
                for thing in ANY:
                    told = paper[:at] + (thing,) + paper[at + 1:]
                    self.assertTrue(told == paper or check_prices(sender, line, blocks, samples, told) is None)
            rows = paper[3]
            for place, pair in enumerate(rows):
                for thing in ANY + [list(pair), pair[:1], pair + pair[:1], (tuple(pair[0]), pair[1]), (pair[0], None),
                                    (pair[0][:-1], pair[1]), (pair[0] + [0], pair[1]), pair[::-1],
                                    ([bool(label) if label < 2 else label for label in pair[0]], pair[1])]:
                    told = rows[:place] + [thing] + rows[place + 1:]
                    self.assertIsNone(check_prices(sender, line, blocks, samples, paper[:3] + (told,)), thing)
            for told in (rows[:-1], rows + rows[:1], tuple(rows), []):
                self.assertIsNone(check_prices(sender, line, blocks, samples, paper[:3] + (told,)))
            for at in (1, 2):
                for table in (paper[at][:-1], paper[at] + [[0]], tuple(paper[at]), [tuple(row) for row in paper[at]],
                              [row + [0] for row in paper[at]], [row[:-1] for row in paper[at]]):
                    self.assertIsNone(check_prices(sender, line, blocks, samples, paper[:at] + (table,) + paper[at + 1:]))

    def test_tables_that_are_not_right(self):
        # The rooms behind one block are (0, -1) and (0, 1); the room behind both blocks tells the last point, too.
        samples = [(2, 0), (2, 0), (2, 0)]
        paper = prices_paper(LONE, LINE, 2, samples)
        self.assertEqual(paper[1], [[0], [9, 1], [5, 1], [2]])
        self.assertEqual(paper[2], [[2], [5, 1], [9, 1], [0]])
        self.assertEqual(check_prices(LONE, LINE, 2, samples, paper), [(14, 2), (14, 2)])
        for table in ([[1], [9, 1], [5, 1], [2]], [[0], [10, 1], [5, 1], [2]], [[0], [9, 2], [5, 1], [2]],
                      [[0], [9, 1], [5, 2], [2]], [[0], [9, 1], [5, 1], [3]], [[None], [9, 1], [5, 1], [2]],
                      [[0], [None, 1], [5, 1], [2]], [[0], [9, 1], [5, 1], [None]]):
            self.assertIsNone(check_prices(LONE, LINE, 2, samples, paper[:1] + (table,) + paper[2:]))
        for table in ([[3], [5, 1], [9, 1], [0]], [[2], [6, 1], [9, 1], [0]], [[2], [5, 1], [10, 1], [0]],
                      [[2], [5, 1], [9, 1], [1]], [[None], [5, 1], [9, 1], [0]], [[2], [None, 1], [9, 1], [0]],
                      [[2], [5, 1], [9, 1], [None]], [[2], [5, 1], [9, None], [0]]):
            self.assertIsNone(check_prices(LONE, LINE, 2, samples, paper[:2] + (table,) + paper[3:]))
        # Lesser integers are right, but then no path costs what they tell.
        for table in ([[1], [4, 0], [8, 0], [-1]], [[2], [5, 1], [8, 1], [0]]):
            self.assertTrue(is_right_ahead(trellis_of(LONE, LINE, 2, samples), table))
            self.assertIsNone(check_prices(LONE, LINE, 2, samples, paper[:2] + (table,) + paper[3:]))
        # The integer of the first room of all plays no part in the sums.
        told = paper[:2] + ([[-5], [5, 1], [9, 1], [0]],) + paper[3:]
        self.assertEqual(check_prices(LONE, LINE, 2, samples, told), [(14, 2), (14, 2)])

    def test_changed_papers_show_the_prices_or_nothing(self):
        source = random.Random(466)
        taken = refused = 0
        for sender, line, blocks, slow in price_cases(467, 40):
            samples = any_samples(source, slow.size())
            paper = prices_paper(sender, line, blocks, samples)
            told = prices_by_hand(slow, samples)
            trellis = trellis_of(sender, line, blocks, samples)
            for _ in range(12):
                changed = copy.deepcopy(paper)
                part = source.choice([part for part in changeable(changed) if part])
                at = source.randrange(len(part))
                if isinstance(part[at], (int, type(None))):
                    part[at] = source.choice((None, 0, 1, (part[at] or 0) - 1, (part[at] or 0) + 1))
                shown = check_prices(sender, line, blocks, samples, changed)
                self.assertIn(shown, (None, told))
                if not is_right_ahead(trellis, changed[2]):
                    self.assertIsNone(shown)
                taken += shown is not None
                refused += shown is None
        self.assertGreater(min(taken, refused), 100)

    def test_all_nearest_paths_make_papers(self):
        source = random.Random(468)
        for sender, line, blocks, slow in price_cases(469, 5):
            samples = any_points(source, slow.size(), 1)
            paper = prices_paper(sender, line, blocks, samples)
            told = prices_by_hand(slow, samples)
            costs = [(run[0] + [0], cost_by_hand(samples, run[3])) for run in slow.runs]
            for place in range(len(told)):
                for labels, spent in costs:
                    bit = bit_of(slow, labels, place)
                    for value in (0, 1):
                        pair = list(paper[3][place])
                        pair[value] = labels
                        rows = paper[3][:place] + [tuple(pair)] + paper[3][place + 1:]
                        shown = check_prices(sender, line, blocks, samples, paper[:3] + (rows,))
                        right = bit == value and spent == told[place][value]
                        self.assertEqual(shown, told if right else None)


class Distances(unittest.TestCase):
    def test_each_place_as_all_pairs_of_rows_tell(self):
        for sender, line, blocks, slow in price_cases(470, 50):
            pairs = slow.distances()
            places = range(blocks * block_bits(sender))
            told = [min(spent for spent, row, other in pairs if row[place] != other[place]) for place in places]
            self.assertEqual([bit_distance(sender, line, blocks, place) for place in places], told)
            self.assertEqual(min(told), distance(sender, line, blocks))

    def test_by_hand(self):
        sender = ("sender", shift_machine((1,)), ((1,),), levels(1))
        self.assertEqual([bit_distance(sender, LINE, 2, 0), bit_distance(sender, LINE, 2, 1)], [8, 8])
        # Of a symbol's bits in grey order the second one tells neighbours apart everywhere, the first one in the middle.
        wide = ("sender", ("machine", 2, 2, ((0,) * 4,), (((0, 0), (0, 1), (1, 0), (1, 1)),)), ((1, 1),), levels(2))
        self.assertEqual([bit_distance(wide, ONE, 1, place) for place in (0, 1)], [4, 4])
        far = ("sender", wide[1], ((1, 1),), ("symbols", 2, ((-9, 0), (-7, 0), (7, 0), (9, 0))))
        self.assertEqual([bit_distance(far, ONE, 3, place) for place in range(6)], [196, 4] * 3)

    def test_many_blocks(self):
        for sender, line in ((SHIFT, LINE), (HALF, line_of((2, 0), (0, 1), (1, 1))), (("sender", SHIFT[1], ((1, 1), (1, 1)), square(2)), LINE)):
            bits = block_bits(sender)
            told = [bit_distance(sender, line, 30, place) for place in range(30 * bits)]
            self.assertEqual(told[10 * bits:15 * bits], told[15 * bits:20 * bits])
            self.assertEqual(min(told), distance(sender, line, 30))

    def noise_below(self, source, many, least):
        noise = [(0, 0)] * many
        while True:
            more = list(noise)
            at = source.randrange(many)
            more[at] = (noise[at][0] + source.choice((-1, 1)), noise[at][1] + source.choice((-1, 0, 1)))
            if 4 * sum(x * x + y * y for x, y in more) >= least:
                return noise
            noise = more

    def test_noise_below_a_quarter(self):
        source = random.Random(471)
        whole = []
        for sender, line, blocks, slow in price_cases(472, 40):
            for place in range(blocks * block_bits(sender)):
                least = bit_distance(sender, line, blocks, place)
                if least > 0:
                    row = source.choice(slow.rows())
                    clear = run_samples(sender, line, row)
                    samples = spoiled(clear, self.noise_below(source, len(clear), least))
                    zero, one = prices(sender, line, blocks, samples)[place]
                    self.assertNotEqual(zero, one)
                    self.assertEqual(row[place], 0 if zero < one else 1)
                    whole.append(hear_run(sender, line, blocks, samples)[0][1] == row)
        # Some of these bits are right where the row as a whole is not.
        self.assertGreater(whole.count(False), 3)

    def test_half_way(self):
        for sender, line, blocks, slow in price_cases(473, 40):
            pairs = slow.distances()
            for place in range(blocks * block_bits(sender)):
                least = bit_distance(sender, line, blocks, place)
                row, other = [told[1:] for told in pairs if told[0] == least and told[1][place] != told[2][place]][0]
                zero, one = prices(sender, line, blocks, halfway(sender, line, row, other))[place]
                self.assertEqual((4 * zero, 4 * one), (least, least))


class Large(unittest.TestCase):
    def test_senders_and_lines_of_some_size(self):
        source = random.Random(474)
        wide = ("sender", shift_machine((19, 29)), ((1, 1), (1, 1)), levels(2))
        row = [source.randrange(2) for _ in range(40)]
        line = line_of((3, 0), (1, 1), (0, 1))
        samples = spoiled(run_samples(wide, line, row), any_points(source, run_size(wide, line, 20), 1))
        told = prices(wide, line, 20, samples)
        self.assertEqual([0 if zero < one else 1 for zero, one in told], row)
        self.assertEqual(check_prices(wide, line, 20, samples, prices_paper(wide, line, 20, samples)), told)


class Kept(unittest.TestCase):
    def test_arguments_stay_and_results_are_new(self):
        source = random.Random(475)
        for sender, line, blocks, slow in price_cases(476, 6):
            samples = any_samples(source, slow.size())
            stands_alone(self, prices, sender, line, blocks, samples)
            stands_alone(self, prices_paper, sender, line, blocks, samples)
            stands_alone(self, check_prices, sender, line, blocks, samples, prices_paper(sender, line, blocks, samples))
            stands_alone(self, check_prices, sender, line, blocks, samples, ("prices", [[0]], [], [([0], [1])]))
            stands_alone(self, bit_distance, sender, line, blocks, 0)


if __name__ == "__main__":
    unittest.main()
