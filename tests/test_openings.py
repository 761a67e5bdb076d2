"""Points 14.1 to 14.6: openings, guesses, and separations."""

import random
import unittest
from itertools import product

from heardtrue.openings import arrival, check_opening, cost, find, separation, shape, turned
from slow import cost_by_hand
from support import any_line, any_points, fault, line_of, smeared_by_hand, stands_alone

ANY = [None, True, False, 0, 1, "", "opening", [], (), {}, [0], (0,), (None,), (1, 0), ((),), 1.0, b"opening"]
OPENING = ((2, 0), (0, 2), (2, 0))
LINES = [line_of((1, 0)), line_of((1, 0), (1, 0))]


def turned_by_hand(points, turn):
    for _ in range(turn):
        points = [(-y, x) for x, y in points]
    return points


def guesses(lines, slack):
    return list(product(range(slack + 1), range(4), range(len(lines))))


def arrival_by_hand(opening, lines, slack, guess):
    """Point 14.4: silence, what the line makes of all of the opening, turned, and silence."""
    place, turn, number = guess
    samples = [(0, 0)] * (slack + len(opening))
    for at, sample in enumerate(turned_by_hand(smeared_by_hand(lines[number], list(opening)), turn)):
        if place + at < len(samples):
            samples[place + at] = sample
    return samples


def cost_of(opening, lines, guess, samples):
    place, turn, number = guess
    clear = turned_by_hand(smeared_by_hand(lines[number], list(opening)), turn)[:len(opening)]
    return cost_by_hand(samples[place:place + len(opening)], clear)


def separation_by_hand(opening, lines, slack):
    told = guesses(lines, slack)
    return min(
        cost_of(opening, lines, other, arrival_by_hand(opening, lines, slack, guess))
        for guess in told for other in told if guess != other
    )


def cases(seed, many, most=3):
    """Openings, lines and slacks."""
    source = random.Random(seed)
    found = []
    for _ in range(many):
        opening = tuple(any_points(source, source.randint(0, 4), most)) + ((most, 1),)
        lines = [any_line(source, source.randint(1, 4), 2) for _ in range(source.randint(1, 3))]
        found.append((opening, lines, source.randint(0, 6)))
    return found


class Openings(unittest.TestCase):
    def test_right_ones(self):
        for opening in (OPENING, ((0, 1),), ((1, 0),) * 64, ((0, 0),) * 63 + ((-1, 0),), ((10 ** 9, -10 ** 9),)):
            self.assertIsNone(fault(check_opening, opening))

    def test_things_of_any_kind(self):
        for thing in ANY + [((0, 0),), ((0, 0),) * 64, ((1, 0),) * 65, list(OPENING), ([2, 0], (0, 2)), ((2, 0), [0, 2]),
                            ((1, True),), ((True, 1),), ((False, 1),), ((1, 0), (1, False)), ((1.0, 0),), ((1, None),),
                            ((1, 0, 0),), ((1,),), ((1, 0), None), ("10",), ((1, 0), 1)]:
            self.assertEqual(fault(check_opening, thing), "opening", thing)


class Shapes(unittest.TestCase):
    def test_turned(self):
        self.assertEqual([turned((3, 1), turn) for turn in range(4)], [(3, 1), (-1, 3), (-3, -1), (1, -3)])
        self.assertEqual([turned((0, 0), turn) for turn in range(4)], [(0, 0)] * 4)

    def test_shape(self):
        self.assertEqual(shape(OPENING, LINES[0], 0), list(OPENING))
        self.assertEqual(shape(OPENING, LINES[1], 1), [(0, 2), (-2, 2), (-2, 2)])
        self.assertEqual(shape(((1, 0),), line_of((0, 2), (5, 5)), 3), [(2, 0)])
        for opening, lines, _ in cases(190, 40):
            for line, turn in product(lines, range(4)):
                wanted = turned_by_hand(smeared_by_hand(line, list(opening)), turn)[:len(opening)]
                self.assertEqual(shape(opening, line, turn), wanted)

    def test_arrival(self):
        self.assertEqual(arrival(OPENING, LINES, 2, (0, 0, 1)), [(2, 0), (2, 2), (2, 2), (2, 0), (0, 0)])
        self.assertEqual(arrival(OPENING, LINES, 2, (2, 0, 1)), [(0, 0), (0, 0), (2, 0), (2, 2), (2, 2)])
        self.assertEqual(arrival(OPENING, LINES, 0, (0, 2, 0)), [(-2, 0), (0, -2), (-2, 0)])
        for opening, lines, slack in cases(191, 40):
            for guess in guesses(lines, slack):
                self.assertEqual(arrival(opening, lines, slack, guess), arrival_by_hand(opening, lines, slack, guess))


class Guesses(unittest.TestCase):
    def test_cost(self):
        source = random.Random(192)
        self.assertEqual(cost(OPENING, LINES, (1, 1, 1), [(0, 0), (0, 1), (-2, 2), (-2, 2), (0, 2)]), 1)
        self.assertEqual(cost(OPENING, LINES, (0, 0, 0), [None] * 5), 0)
        for opening, lines, slack in cases(193, 40):
            samples = [None if source.random() < 0.3 else point for point in any_points(source, slack + len(opening) + 2, 5)]
            for guess in guesses(lines, slack):
                self.assertEqual(cost(opening, lines, guess, samples), cost_of(opening, lines, guess, samples))

    def test_find(self):
        self.assertEqual(find(OPENING, LINES, 2, [(0, 0), (0, 1), (-2, 2), (-2, 2), (0, 2)]), (1, 1, 1))
        source = random.Random(194)
        for opening, lines, slack in cases(195, 60):
            samples = [None if source.random() < 0.3 else point for point in any_points(source, slack + len(opening) + 3, 5)]
            wanted = min(guesses(lines, slack), key=lambda guess: (cost_of(opening, lines, guess, samples), guess))
            self.assertEqual(find(opening, lines, slack, samples), wanted)
            self.assertEqual(find(opening, tuple(lines), slack, samples), wanted)

    def test_of_equal_ones_the_least_triple(self):
        self.assertEqual(find(OPENING, LINES, 2, [None] * 5), (0, 0, 0))
        self.assertEqual(find(OPENING, LINES[:1] * 3, 0, list(OPENING)), (0, 0, 0))
        # Half-way between the turns 1 and 2, at the places 0 and 1.
        self.assertEqual(find(((2, 0),), LINES[:1], 1, [(-1, 1), (-1, 1)]), (0, 1, 0))
        self.assertEqual(find(((2, 0),), LINES[:1], 1, [(0, 0), (-1, 1)]), (1, 1, 0))
        self.assertEqual(find(((2, 0),), [line_of((0, 1)), line_of((1, 0))], 1, [(2, 0), (2, 0)]), (0, 0, 1))
        self.assertEqual(find(((2, 0),), [line_of((0, 1)), line_of((1, 0))], 1, [(0, 2), (2, 0)]), (0, 0, 0))

    def test_integers_of_any_size(self):
        far = 10 ** 40
        opening = ((far, 0), (0, -far), (2, far))
        samples = arrival(opening, LINES, 3, (2, 3, 1))
        self.assertEqual(find(opening, LINES, 3, samples), (2, 3, 1))
        self.assertEqual(cost(opening, LINES, (2, 3, 1), [(x, y + far) for x, y in samples]), 3 * far * far)
        self.assertEqual(separation(opening, LINES, 1), separation_by_hand(opening, LINES, 1))

    def test_the_greatest_ones(self):
        source = random.Random(196)
        opening = tuple(any_points(source, 64, 9))
        lines = [any_line(source, 4, 9) for _ in range(8)]
        for guess in ((100, 3, 7), (0, 0, 0), (57, 2, 4)):
            self.assertEqual(find(opening, lines, 100, arrival(opening, lines, 100, guess)), guess)
        self.assertGreater(separation(opening, lines, 100), 0)


class Separations(unittest.TestCase):
    def test_by_hand(self):
        # One place on, the opening is compared with nothing; a turn differs by 4 + 4.
        self.assertEqual(separation(((2, 0),), LINES[:1], 0), 8)
        self.assertEqual(separation(((2, 0),), LINES[:1], 1), 4)
        self.assertEqual(separation(((2, 0),), LINES[:1], 100), 4)

    def test_by_a_slow_search(self):
        none = 0
        for opening, lines, slack in cases(197, 50):
            told = separation(opening, lines, slack)
            self.assertEqual(told, separation_by_hand(opening, lines, slack))
            self.assertEqual(separation(opening, tuple(lines), slack), told)
            none += slack == 0
        self.assertGreater(none, 2)

    def test_guesses_that_look_alike(self):
        self.assertEqual(separation(OPENING, LINES[:1] * 2, 2), 0)
        self.assertEqual(separation(OPENING, [line_of((1, 0)), line_of((0, 1))], 0), 0)
        # The second tap comes behind the opening.
        self.assertEqual(separation(((2, 0),), LINES, 0), 0)
        self.assertEqual(separation(((2, 0), (2, 0)), LINES, 0), 4)
        self.assertEqual(separation(((0, 0), (2, 0)), LINES[:1], 0), 8)

    def test_less_than_a_quarter_is_borne(self):
        source = random.Random(198)
        found = 0
        for opening, lines, slack in cases(199, 60):
            apart = separation(opening, lines, slack)
            if apart == 0:
                continue
            for guess in source.sample(guesses(lines, slack), 4):
                clear = arrival(opening, lines, slack, guess)
                noise = any_points(source, len(clear), 2)
                while 4 * sum(x * x + y * y for x, y in noise) >= apart:
                    noise[source.choice([at for at, point in enumerate(noise) if point != (0, 0)])] = (0, 0)
                samples = [(a + c, b + d) for (a, b), (c, d) in zip(clear, noise)]
                self.assertEqual(find(opening, lines, slack, samples), guess)
                self.assertLessEqual(cost(opening, lines, guess, samples), sum(x * x + y * y for x, y in noise))
                found += any(point != (0, 0) for point in noise)
        self.assertGreater(found, 40)

    def test_half_way_at_one_place(self):
        source = random.Random(200)
        for opening, lines, slack in cases(201, 30, 4):
            opening = tuple((2 * x, 2 * y) for x, y in opening)
            place = source.randint(0, slack)
            one, other = source.sample([(turn, number) for turn in range(4) for number in range(len(lines))], 2)
            first = arrival(opening, lines, slack, (place, *one))
            second = shape(opening, lines[other[1]], other[0])
            samples = list(first)
            for at, (x, y) in enumerate(second):
                samples[place + at] = ((samples[place + at][0] + x) // 2, (samples[place + at][1] + y) // 2)
            told = [cost(opening, lines, (place, *guess), samples) for guess in (one, other)]
            self.assertEqual(told[0], told[1])
            self.assertEqual(4 * told[0], cost(opening, lines, (place, *other), first))


class Kept(unittest.TestCase):
    def test_arguments_stay_and_results_are_new(self):
        samples = [(0, 0), None, (-2, 2), (-2, 2), (0, 2)]
        stands_alone(self, check_opening, OPENING)
        stands_alone(self, turned, (1, 2), 0)
        stands_alone(self, shape, OPENING, LINES[1], 0)
        stands_alone(self, shape, OPENING, LINES[0], 3)
        stands_alone(self, arrival, OPENING, LINES, 2, (1, 0, 1))
        stands_alone(self, cost, OPENING, LINES, (1, 0, 1), samples)
        stands_alone(self, find, OPENING, LINES, 2, samples)
        stands_alone(self, separation, OPENING, LINES, 2)


if __name__ == "__main__":
    unittest.main()
