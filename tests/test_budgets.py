"""Points 17.1 to 17.3: how much noise a frame bears, and how many of its runs may be spoiled."""

import random
import unittest
from itertools import combinations

from heardtrue.budgets import opening_budget, promise, run_budget, spare_runs
from heardtrue.distances import nearest_pair
from heardtrue.frames import frame_samples
from heardtrue.hearing import hear
from heardtrue.lines import lost
from heardtrue.machines import shift_machine
from heardtrue.openings import separation
from heardtrue.symbols import levels
from slow import SHIFT, SlowRuns
from slowlinks import CUT, LONE, SOON, TINY, link_of, run_places, runs_touched, starts_by_hand
from somelinks import ALL, EMPTY, GREAT, PLAIN, WIDE
from support import any_points, line_of, stands_alone


def spare_by_hand(fields):
    """Point 17.2, with all choices of runs."""
    _, _, _, n, k = fields["code"]
    touched = runs_touched(fields)
    counts = [[0] * fields["runs"] for _ in range(fields["words"])]
    for (word, _), runs in touched.items():
        for run in runs:
            counts[word][run] += 1
    spare = 0
    for many in range(1, fields["runs"] + 1):
        choices = list(combinations(range(fields["runs"]), many))
        if all(2 * sum(count[run] for run in runs) <= n - k for runs in choices for count in counts):
            spare = many
    return spare


class Budgets(unittest.TestCase):
    def test_the_budget_of_a_run_by_hand(self):
        # One row is sent as it is, with the symbols -1 and 1: two rows differ by 2 at one sample at least.
        self.assertEqual(run_budget(link_of(LONE)), 4)
        self.assertEqual(run_budget(link_of(PLAIN)), 4)
        self.assertEqual(run_budget(link_of(PLAIN, lines=(line_of((3, 0)),))), 36)
        self.assertEqual(run_budget(link_of(PLAIN, lines=(line_of((3, 0)), line_of((1, 1))))), 8)
        self.assertEqual(run_budget(link_of(PLAIN, lines=(line_of((1, 1)), line_of((3, 0), (0, 1)), line_of((2, 0))))), 8)

    def test_the_budget_of_a_run_by_a_slow_search(self):
        # One block alone: 4 bits of a word are sent in 5 runs.
        for sender in (SHIFT, TINY["sender"]):
            for lines in (TINY["lines"], CUT["lines"], CUT["lines"][:1], WIDE["lines"]):
                fields = dict(TINY, sender=sender, lines=lines)
                blocks = link_of(fields).blocks()
                least = min(min(SlowRuns(sender, line, 3).distances())[0] for line in lines)
                self.assertEqual(min(nearest_pair(sender, line, 3)[0] for line in lines), least)
                self.assertEqual(run_budget(link_of(fields)), min(nearest_pair(sender, line, blocks)[0] for line in lines))

    def test_the_budget_of_a_great_link(self):
        lines = (line_of((3, 0), (1, 1), (0, 1), (1, 0)), line_of((5, 0)), line_of((2, 0), (0, 3)))
        fields = dict(GREAT, lines=lines)
        self.assertEqual(link_of(fields).blocks(), 1020)
        self.assertEqual(run_budget(link_of(fields)), min(nearest_pair(fields["sender"], line, 4)[0] for line in lines))

    def test_the_budget_of_the_opening(self):
        for fields in ALL + SOON:
            link = link_of(fields)
            self.assertEqual(opening_budget(link), separation(fields["opening"], fields["lines"], fields["slack"]))
        # A turn by a quarter, all else alike: (4, 0) and (0, 4) differ by 32 at each of three points.
        self.assertEqual(opening_budget(link_of(PLAIN, slack=0)), 96)
        self.assertEqual(opening_budget(link_of(PLAIN, slack=0, lines=PLAIN["lines"] * 2)), 0)

    def test_promise(self):
        for fields in (PLAIN, TINY, CUT, LONE, EMPTY):
            link = link_of(fields)
            self.assertEqual(promise(link), ("promise", opening_budget(link), run_budget(link), spare_runs(link)))
        self.assertEqual(promise(link_of(PLAIN, slack=0)), ("promise", 96, 4, 0))
        self.assertEqual(promise(link_of(LONE))[2:], (4, 2))


class Spare(unittest.TestCase):
    def test_by_hand(self):
        # Each run touches one symbol of each word, and the words have four symbols more than they tell.
        self.assertEqual(spare_runs(link_of(LONE)), 2)
        # Five runs of six symbols: by rows all six are of one word, by columns three of each of the two words.
        rows = dict(PLAIN, words=2, mix=("mix", 1, 30), runs=5)
        self.assertEqual(link_of(rows).blocks(), 24)
        self.assertEqual(spare_runs(link_of(rows)), 0)
        self.assertEqual(spare_runs(link_of(dict(rows, mix=("mix", 2, 15)))), 1)
        # Just as many as may be wrong: 6 of 12, and one less.
        self.assertEqual(spare_runs(link_of(dict(rows, code=("words", 4, 19, 15, 3)))), 1)
        self.assertEqual(spare_runs(link_of(dict(rows, code=("words", 4, 19, 15, 4)))), 0)
        # A symbol that two runs touch counts twice: the runs of 15 bits touch 4 or 5 symbols.
        cut = dict(PLAIN, runs=4)
        self.assertEqual([spare_runs(link_of(dict(cut, code=("words", 4, 19, 15, k)))) for k in (3, 5, 6, 7, 8)], [1, 1, 0, 0, 0])

    def test_none_spare(self):
        for fields in (PLAIN, dict(PLAIN, runs=1), WIDE, dict(TINY, runs=1), dict(TINY, code=("words", 3, 11, 7, 6))):
            self.assertEqual([spare_by_hand(fields), spare_runs(link_of(fields))], [0, 0])

    def test_all_but_the_one_that_is_needed(self):
        # Every symbol is sent in some run, and more than half of them are needed: never are all runs spare.
        fields = dict(PLAIN, code=("words", 8, 285, 160, 3), words=1, mix=("mix", 1, 160), runs=8)
        self.assertEqual([spare_by_hand(fields), spare_runs(link_of(fields))], [3, 3])
        for runs in range(1, 9):
            self.assertLess(spare_runs(link_of(fields, runs=runs)), runs)

    def test_runs_that_touch_no_symbol(self):
        # 60 bits, 12 of them in a run: of six or seven runs the last ones send no bit of the word.
        sender = ("sender", shift_machine((7, 5)), ((1, 1),) * 4, levels(2))
        for runs in (6, 7):
            for k in range(3, 15):
                fields = dict(PLAIN, sender=sender, code=("words", 4, 19, 15, k), runs=runs)
                self.assertEqual({run for told in runs_touched(fields).values() for run in told}, set(range(5)))
                spare = (15 - k) // 6
                self.assertEqual([spare_by_hand(fields), spare_runs(link_of(fields))], [spare, spare])

    def test_by_all_choices_of_runs(self):
        source = random.Random(320)
        counts = []
        for _ in range(120):
            m, poly = source.choice(((3, 11), (4, 19), (8, 285)))
            n = source.randint(max(3, 14 // m), min(2 ** m - 1, 24))
            k = source.randint(1, n - 1)
            words = source.randint(1, 8)
            while (words * k * m - 2) // 8 < 1:
                words, k = source.randint(1, 8), source.randint(1, n - 1)
            rows = source.choice([rows for rows in range(1, words * n + 1) if words * n % rows == 0])
            sender = source.choice((SHIFT, PLAIN["sender"], ("sender", shift_machine((7, 5)), ((1, 1),) * 4, levels(2))))
            fields = dict(TINY, sender=sender, code=("words", m, poly, n, k), words=words, mix=("mix", rows, words * n // rows),
                          runs=source.randint(1, 8))
            counts.append(spare_by_hand(fields))
            self.assertEqual(spare_runs(link_of(fields)), counts[-1])
        self.assertGreater(len(set(counts)), 3)


def noise_below(source, many, budget):
    """Noise at so many samples, of which four times the size is as near below a budget as it can be."""
    noise = [(0, 0)] * many
    while True:
        more = list(noise)
        at = source.randrange(many)
        more[at] = (noise[at][0] + source.choice((-1, 0, 1)), noise[at][1] + source.choice((-1, 1)))
        if 4 * sum(x * x + y * y for x, y in more) >= budget:
            return noise
        noise = more


def with_noise(samples, places, noise):
    samples = list(samples)
    for place, (x, y) in zip(places, noise):
        samples[place] = (samples[place][0] + x, samples[place][1] + y)
    return samples


class Promised(unittest.TestCase):
    FIELDS = (
        dict(LONE, lines=(line_of((3, 0)), line_of((5, 0)))),
        dict(TINY, code=("words", 4, 19, 13, 3), mix=("mix", 2, 13), runs=8, lines=(line_of((2, 0), (0, 1)),)),
        dict(CUT, code=("words", 4, 19, 15, 3), mix=("mix", 2, 15), runs=8),
    )

    def noisy(self, source, fields, found, samples, spoiled):
        """The samples with noise just within the budgets; the spoiled runs are anything, or lost."""
        link = link_of(fields)
        first = found[0] + starts_by_hand(fields)[0][0]
        samples = with_noise(samples, range(first), noise_below(source, first, opening_budget(link)))
        budget = run_budget(link)
        for run in range(fields["runs"]):
            places = list(run_places(fields, found, run))
            if run not in spoiled:
                samples = with_noise(samples, places, noise_below(source, len(places), budget))
            elif source.random() < 0.3:
                samples = lost(samples, places)
            else:
                for place, sample in zip(places, any_points(source, len(places), source.choice((2, 50)))):
                    samples[place] = sample if source.random() < 0.9 else None
        return samples

    def test_a_message_is_heard_with_noise_within_the_budgets_and_all_choices_of_spare_runs(self):
        source = random.Random(321)
        spares = []
        for fields in self.FIELDS:
            link = link_of(fields)
            spare = spare_runs(link)
            spares.append(spare)
            self.assertGreater(run_budget(link), 4)
            self.assertGreater(opening_budget(link), 4)
            for many in range(spare + 1):
                for runs in combinations(range(fields["runs"]), many):
                    message = [source.randrange(256) for _ in range(link.most_bytes())]
                    found = (source.randint(0, fields["slack"]), source.randrange(4), source.randrange(len(fields["lines"])))
                    samples = frame_samples(link, message, place=found[0], turn=found[1], number=found[2])
                    told = self.noisy(source, fields, found, samples, runs)
                    self.assertEqual(hear(link, told)[0], ("heard", message))
        self.assertEqual(spares, [2, 2, 2])

    def test_one_run_more_can_be_too_many(self):
        source = random.Random(322)
        for fields in self.FIELDS:
            link = link_of(fields)
            samples = frame_samples(link, [85] * link.most_bytes(), place=0, turn=0, number=0)
            names = set()
            for _ in range(40):
                runs = source.sample(range(fields["runs"]), spare_runs(link) + 2)
                names.add(hear(link, self.noisy(source, fields, (0, 0, 0), samples, runs))[0][0])
            self.assertIn("refused", names)


class Kept(unittest.TestCase):
    def test_links_stay(self):
        for fields in (TINY, CUT, LONE):
            link = link_of(fields)
            for function in (run_budget, opening_budget, spare_runs, promise):
                stands_alone(self, lambda: function(link))
            self.assertEqual({name: getattr(link, name) for name in fields}, fields)


if __name__ == "__main__":
    unittest.main()
