"""Points 16.3 and 16.4: papers of frames, and their audit."""

import copy
import random
import unittest

from heardtrue.audits import audit
from heardtrue.frames import frame_samples, words_for
from heardtrue.hearing import hear
from heardtrue.lines import lost
from heardtrue.runs import hear_run
from heardtrue.words import encode
from slowlinks import (
    CUT, LONE, SOON, bad_words, heard_by_hand, link_of, run_places, samples_of_words, windows_by_hand,
)
from somelinks import EMPTY, WIDE
from support import any_points, changeable, stands_alone
from test_hearing import noisy, spoilt

ANY = [
    None, True, False, 0, 1, -1, "", "frame", [], (), {}, [0], (0, 0, 0), ("frame",), ["frame", (0, 0, 0), [], []],
    ("frame", (0, 0, 0), []), ("frame", None, None, None), ("frame", (0, 0, 0), [], []), 1.0, b"frame",
]


def heard_cases(seed, many):
    """Links with samples whose frames are heard, and the papers."""
    source = random.Random(seed)
    found = []
    while len(found) < many:
        fields = source.choice(SOON)
        link = link_of(fields)
        message = [source.randrange(256) for _ in range(source.randint(0, link.most_bytes()))]
        triple = (source.randint(0, fields["slack"]), source.randrange(4), source.randrange(2))
        samples = frame_samples(link, message, place=triple[0], turn=triple[1], number=triple[2])
        samples = spoilt(source, fields, triple, noisy(source, samples, 1, 0.3), source.sample(range(4), source.randint(0, 2)))
        answer, paper = hear(link, samples)
        if answer[0] == "heard":
            found.append((fields, link, samples, answer[1], paper))
    return found


class Taken(unittest.TestCase):
    def test_what_is_heard_is_taken_and_shown(self):
        for _, link, samples, message, paper in heard_cases(310, 40):
            self.assertEqual(audit(link, samples, paper), message)

    def test_a_wide_link_and_one_without_bytes(self):
        for fields, message in ((WIDE, [9, 8, 7]), (EMPTY, [])):
            link = link_of(fields)
            samples = frame_samples(link, message, place=1, turn=1, number=0)
            self.assertEqual(audit(link, samples, hear(link, samples)[1]), message)

    def test_other_papers_of_the_runs(self):
        link = link_of(LONE)
        samples = frame_samples(link, [200], place=2, turn=0, number=0)
        _, paper = hear(link, samples)
        # The potentials of a run may be less than the greatest ones.
        name, labels, table = copy.deepcopy(paper[2][3])
        table[-1] = [None if item is None else item - 1 for item in table[-1]]
        other = paper[:2] + (paper[2][:3] + [(name, labels, table)] + paper[2][4:],) + paper[3:]
        self.assertNotEqual(other, paper)
        self.assertEqual(audit(link, samples, other), [200])
        # Any two of the nearest rows make a tie: all six bits of a lost run.
        samples = lost(samples, list(run_places(LONE, (2, 0, 0), 3)))
        _, paper = hear(link, samples)
        tie = paper[2][3]
        self.assertEqual(tie[:3], ("tie", [0] * 7, [0] * 5 + [1, 0]))
        for row in ([0, 1, 0, 1, 1, 0], [1, 1, 1, 1, 1, 0]):
            told = ("tie", row + [0], [1] * 6 + [0], tie[3])
            other = paper[:2] + (paper[2][:3] + [told] + paper[2][4:],) + paper[3:]
            self.assertEqual(audit(link, samples, other), [200])

    def test_whatever_paper_is_taken_shows_the_message_that_is_heard(self):
        source = random.Random(311)
        cases = heard_cases(312, 30)
        taken = 0
        for fields, link, samples, message, _ in cases:
            for others, beside, _, _, paper in cases:
                if others is fields:
                    shown = audit(link, samples, paper)
                    self.assertIn(shown, (None, message))
                    taken += shown is not None
            near = noisy(source, samples, 1, 0.1)
            answer, paper = hear(link, near)
            shown = audit(link, samples, paper)
            self.assertIn(shown, (None, message))
            taken += shown is not None
        self.assertGreaterEqual(taken, 30)


class Refused(unittest.TestCase):
    def setUp(self):
        self.link = link_of(CUT)
        samples = frame_samples(self.link, [90], place=0, turn=1, number=0)
        self.samples = lost(samples, list(run_places(CUT, (0, 1, 0), 3)))
        answer, self.paper = hear(self.link, self.samples)
        self.assertEqual(answer, ("heard", [90]))
        self.assertEqual([paper[0] for paper in self.paper[2]], ["one", "one", "one", "tie"])

    def with_part(self, at, part):
        return self.paper[:at] + (part,) + self.paper[at + 1:]

    def refused(self, paper):
        self.assertIsNone(audit(self.link, self.samples, paper), paper)

    def test_things_of_any_kind(self):
        for thing in ANY:
            self.refused(thing)
            for at in range(4):
                if (at, thing) != (0, "frame"):
                    self.refused(self.with_part(at, thing))
        self.refused(list(self.paper))
        self.refused(self.paper[:3])
        self.refused(self.paper + (None,))
        self.refused(("weighed",) + self.paper[1:])
        self.assertEqual(audit(self.link, self.samples, self.paper), [90])

    def test_another_triple(self):
        for triple in ((0, 0, 0), (0, 2, 0), (0, 1, 1), (1, 1, 0), (0, 5, 0), (0, 1), (0, 1, 0, 0), [0, 1, 0],
                       (0, True, 0), (False, 1, 0), (0, 1, False), (0, 1.0, 0), (None, 1, 0), ("0", 1, 0)):
            self.refused(self.with_part(1, triple))

    def test_other_papers_of_the_runs(self):
        runs = self.paper[2]
        self.refused(self.with_part(2, runs[:3]))
        self.refused(self.with_part(2, runs + runs[3:]))
        self.refused(self.with_part(2, tuple(runs)))
        self.refused(self.with_part(2, [runs[1], runs[0]] + runs[2:]))
        for run in range(4):
            for thing in ANY + [runs[run][:2], list(runs[run]), runs[run - 1], runs[run] + (0,)]:
                self.refused(self.with_part(2, runs[:run] + [thing] + runs[run + 1:]))
            for at in range(1, len(runs[run])):
                for thing in ANY + [tuple(runs[run][at]), runs[run][at][:-1], runs[run][at] + [0]]:
                    told = runs[run][:at] + (thing,) + runs[run][at + 1:]
                    self.refused(self.with_part(2, runs[:run] + [told] + runs[run + 1:]))

    def test_true_in_the_place_of_1(self):
        name, labels, table = self.paper[2][0]
        self.assertIn(1, labels)
        told = (name, [True if label == 1 else label for label in labels], table)
        self.refused(self.with_part(2, [told] + self.paper[2][1:]))
        table = [[False if item == 0 else item for item in row] for row in table]
        self.refused(self.with_part(2, [(name, labels, table)] + self.paper[2][1:]))
        words = [[True if symbol == 1 else False if symbol == 0 else symbol for symbol in word] for word in self.paper[3]]
        self.assertEqual(words, self.paper[3])
        self.refused(self.with_part(3, words))

    def test_other_words(self):
        words = self.paper[3]
        for wrong in ([], words[:1], words + words[:1], [words[1], words[0]], [words[0], words[0]], tuple(words),
                      [tuple(word) for word in words], [words[0], tuple(words[1])], [words[0], None], [words[0][:-1], words[1]],
                      [words[0] + [0], words[1]], [encode(CUT["code"], [0, 0, 0]), words[1]]):
            self.refused(self.with_part(3, wrong))
        for at in range(2):
            for place in range(7):
                for symbol in (words[at][place] ^ 1, -1, 8, None, str(words[at][place]), float(words[at][place])):
                    word = words[at][:place] + [symbol] + words[at][place + 1:]
                    self.refused(self.with_part(3, words[:at] + [word] + words[at + 1:]))
        # A right word that is not near the samples, whatever it tells.
        for message in ([91], [], [0]):
            self.refused(self.with_part(3, words_for(self.link, message)))

    def test_a_wrong_number_of_samples_is_not_taken(self):
        for samples in ([], self.samples[:-1], self.samples[1:], self.samples + [None], self.samples + [(0, 0)]):
            for paper in [self.paper] + ANY:
                self.assertIsNone(audit(self.link, samples, paper))

    def test_samples_of_another_frame(self):
        for place, turn, number, message in ((0, 1, 0, [91]), (0, 0, 0, [90]), (0, 1, 1, [90])):
            samples = frame_samples(self.link, message, place=place, turn=turn, number=number)
            self.assertIsNone(audit(self.link, samples, self.paper))

    def test_a_frame_that_is_refused_has_no_paper_that_is_taken(self):
        source = random.Random(313)
        refused = 0
        for fields in SOON:
            link = link_of(fields)
            samples = frame_samples(link, [7], place=0, turn=0, number=0)
            frames = [samples_of_words(fields, words, 0, 0, 0) for words in bad_words(fields).values()]
            frames += [noisy(source, samples, 4, 1) for _ in range(5)] + [any_points(source, len(samples), 5)]
            for told in frames:
                answer, paper = hear(link, told)
                if answer[0] == "refused":
                    self.assertIsNone(paper)
                    refused += 1
                    # All that the words of the document find, put into a paper.
                    found, verdicts, words, _ = heard_by_hand(fields, told)
                    runs = self.papers_of(fields, found, told)
                    for choice in (words, [word or [0] * 7 for word in words], words_for(link, [7])):
                        self.assertIsNone(audit(link, told, ("frame", found, runs, choice)))
        self.assertGreater(refused, 15)

    def papers_of(self, fields, found, samples):
        link = link_of(fields)
        line, windows = windows_by_hand(fields, found, samples)
        return [hear_run(link.sender, line, link.blocks(), window)[1] for window in windows]


class Changed(unittest.TestCase):
    def test_changed_papers_show_the_message_or_nothing(self):
        source = random.Random(314)
        shown = []
        for _, link, samples, message, paper in heard_cases(315, 25):
            for _ in range(12):
                changed = copy.deepcopy(paper)
                part = source.choice([part for part in changeable(changed) if part])
                at = source.randrange(len(part))
                item = part[at]
                if isinstance(item, int):
                    part[at] = source.choice((None, item + 1, item - 1, 0, True, item - 3))
                elif source.random() < 0.5:
                    del part[at]
                else:
                    part.append(item)
                told = audit(link, samples, changed)
                self.assertIn(told, (None, message))
                shown.append(told is None)
        self.assertGreater(shown.count(True), 150)


class Kept(unittest.TestCase):
    def test_arguments_stay_and_results_are_new(self):
        for fields, link, samples, _, paper in heard_cases(316, 8):
            stands_alone(self, lambda told, given: audit(link, told, given), samples, paper)
            stands_alone(self, lambda told, given: audit(link, told, given), samples, ("frame", [], [[]], []))
            self.assertEqual({name: getattr(link, name) for name in fields}, fields)


if __name__ == "__main__":
    unittest.main()
