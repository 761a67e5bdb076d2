"""Points 21.1 to 21.6: exact papers, weights, and frames that are heard by weighing."""

import copy
import random
import unittest

from heardtrue.budgets import opening_budget, run_budget
from heardtrue.distances import nearest_pair
from heardtrue.frames import frame_samples, words_for
from heardtrue.hearing import hear
from heardtrue.lines import lost
from heardtrue.potentials import check_paper, paper_of, potentials_of
from heardtrue.runs import hear_run
from heardtrue.smears import trellis_of
from heardtrue.trellises import apart
from heardtrue.weighing import (
    audit_weighed, check_exact, exact_paper, frame_budget, hear_weighed, is_spread, is_weighed, weigh, weight,
)
from heardtrue.words import encode
from slow import any_samples, cases
from slowlinks import (
    CUT, LONE, SOON, TINY, all_words, answer_by_hand, bad_words, found_by_hand, link_of, run_places, runs_touched,
    samples_of_words, starts_by_hand, symbols_by_hand, verdicts_by_hand, windows_by_hand,
)
from somelinks import ALL, EMPTY, PLAIN, WIDE
from support import any_points, changeable, fault, line_of, paths_through, stands_alone, trellises
from test_budgets import noise_below, with_noise
from test_hearing import noisy, spoilt

ANY = [
    None, True, False, 0, 1, -1, "", "exact", "tie", "one", [], (), {}, [0], [[0]], (0, 0, 0), ("exact",), ("tie",),
    ["exact", [0], None, [[0]]], 1.0, b"exact",
]
CODES = [("words", 2, 7, 3, 1), ("words", 2, 7, 3, 2), ("words", 3, 11, 7, 2), ("words", 3, 11, 5, 1), ("words", 3, 11, 7, 3)]


def ranked_paths(trellis):
    return sorted((spent, labels) for labels, spent in paths_through(trellis))


def exact_by_hand(trellis):
    """What the best paths show, with the exact gap."""
    ranked = ranked_paths(trellis)
    if not ranked:
        return None
    if len(ranked) == 1:
        return ("one", ranked[0][1], ranked[0][0], None)
    if ranked[0][0] == ranked[1][0]:
        return ("tie", ranked[0][1], ranked[1][1], ranked[0][0])
    return ("one", ranked[0][1], ranked[0][0], ranked[1][0] - ranked[0][0])


class Exact(unittest.TestCase):
    def test_by_hand(self):
        trellis = ("trellis", (1, 1), [[(0, 0, 0, 5), (0, 0, 3, 2), (0, 0, 4, 9)]], (0,))
        paper = exact_paper(trellis)
        self.assertEqual(paper, ("exact", [3], [0], [[0], [5, 2]]))
        self.assertEqual(check_exact(trellis, paper), ("one", [3], 2, 3))
        for second in ([3], [4], [1], [], [0, 0], None, (0,), 0, [False]):
            self.assertIsNone(check_exact(trellis, ("exact", [3], second, [[0], [5, 2]])))
        # The gap that these potentials show is not that of another path.
        for table in ([[0], [4, 2]], [[0], [3, 2]], [[0], [5, None]], [[0], [None, 2]], [[0], [6, 2]], [[0], [2, 2]]):
            for second in ([0], [4], None):
                told = check_exact(trellis, ("exact", [3], second, table))
                self.assertIsNone(told)

    def test_one_path_alone(self):
        trellis = ("trellis", (1, 1), [[(0, 0, 7, 5)]], (0,))
        self.assertEqual(exact_paper(trellis), ("exact", [7], None, [[0], [None, 5]]))
        self.assertEqual(check_exact(trellis, ("exact", [7], None, [[0], [None, 5]])), ("one", [7], 5, None))
        # A gap that is shown must be that of another path, but there is none.
        for table in ([[0], [9, 5]], [[0], [6, 5]]):
            self.assertEqual(check_paper(trellis, ("one", [7], table))[0], "one")
            for second in (None, [7], [8], [], 0):
                self.assertIsNone(check_exact(trellis, ("exact", [7], second, table)))
        for second in ([7], [8], []):
            self.assertIsNone(check_exact(trellis, ("exact", [7], second, [[0], [None, 5]])))

    def test_another_path_where_none_is_told(self):
        trellis = ("trellis", (1, 1), [[(0, 0, 0, 5), (0, 0, 3, 2)]], (0,))
        for table in ([[0], [5, 2]], [[0], [None, 2]]):
            self.assertIsNone(check_exact(trellis, ("exact", [3], None, table)))

    def test_without_a_path(self):
        for trellis in (("trellis", (1, 1), [[]], (0,)), ("trellis", (1, 2), [[(0, 0, 0, 1)]], (1,)), ("trellis", (1,), [], ())):
            self.assertIsNone(exact_paper(trellis))
            for thing in ANY + [("exact", [0], None, potentials_of(trellis)), ("exact", [], None, [[0]])]:
                self.assertIsNone(check_exact(trellis, thing))

    def test_by_all_paths(self):
        kinds = []
        for trellis in trellises(380, 300):
            paper = exact_paper(trellis)
            shown = exact_by_hand(trellis)
            kinds.append(shown and (shown[0], shown[-1] is None))
            if shown is None:
                self.assertIsNone(paper)
                continue
            self.assertEqual(check_exact(trellis, paper), shown)
            if shown[0] == "tie":
                self.assertEqual(paper, paper_of(trellis))
            else:
                ranked = ranked_paths(trellis)
                second = ranked[1][1] if len(ranked) > 1 else None
                self.assertEqual(paper, ("exact", shown[1], second, potentials_of(apart(trellis, shown[1]))))
            # Plain papers of one path are none that are exact.
            self.assertEqual(check_exact(trellis, paper_of(trellis)), shown if shown[0] == "tie" else None)
        for kind in (None, ("one", True), ("one", False), ("tie", False)):
            self.assertGreater(kinds.count(kind), 20, kind)

    def test_changed_papers_show_what_is_true(self):
        source = random.Random(381)
        taken = 0
        for trellis in trellises(382, 200):
            paper = exact_paper(trellis)
            if paper is None:
                continue
            for _ in range(6):
                changed = copy.deepcopy(paper)
                part = source.choice([part for part in changeable(changed) if part])
                at = source.randrange(len(part))
                if isinstance(part[at], list):
                    continue
                part[at] = source.choice((None, 0, 1, (part[at] or 0) - 1, (part[at] or 0) + 1, True))
                shown = check_exact(trellis, changed)
                right = exact_by_hand(trellis)
                if shown is not None and shown[0] == "one":
                    self.assertEqual(shown, right)
                    taken += 1
                elif shown is not None:
                    costs = {tuple(labels): spent for spent, labels in ranked_paths(trellis)}
                    self.assertEqual([costs[tuple(labels)] for labels in shown[1:3]], [right[3]] * 2)
        self.assertGreater(taken, 30)

    def test_any_second_path_with_the_same_cost(self):
        trellis = ("trellis", (1, 1), [[(0, 0, 0, 5), (0, 0, 1, 5), (0, 0, 3, 2)]], (0,))
        for second in ([0], [1]):
            self.assertEqual(check_exact(trellis, ("exact", [3], second, [[0], [5, 2]])), ("one", [3], 2, 3))

    def test_things_of_any_kind(self):
        for trellis in trellises(383, 60):
            paper = exact_paper(trellis)
            for thing in ANY:
                self.assertIsNone(check_exact(trellis, thing))
                for at in range(len(paper or ())):
                    if at != 2 or thing is not None:
                        told = check_exact(trellis, paper[:at] + (thing,) + paper[at + 1:])
                        self.assertTrue(told is None or thing in (paper[at], [0]), (paper, thing))
            if paper:
                self.assertIsNone(check_exact(trellis, list(paper)))
                self.assertIsNone(check_exact(trellis, paper[:3]))
                self.assertIsNone(check_exact(trellis, paper + (0,)))


class Weights(unittest.TestCase):
    def test_by_hand(self):
        code = CODES[0]
        self.assertEqual(weight(code, 4, [1, 1, 2], [0, 1, 4], [2, 2, 2]), 16 + 23 + 0)
        self.assertEqual(weight(code, 4, [1, 1, 2], [0, 1, 4], [1, 1, 1]), 16 + 9 + 32)
        self.assertEqual(weight(code, 4, [1, 1, 2], [4, 4, 4], [1, 1, 2]), 0)

    def test_the_sum_over_the_places(self):
        source = random.Random(384)
        for code in CODES:
            for _ in range(40):
                most = source.choice((0, 1, 2, 7, 100))
                heard = [source.randrange(2 ** code[1]) for _ in range(code[3])]
                sure = [source.randint(0, most) for _ in heard]
                for word in source.sample(all_words(code), 4):
                    wanted = sum(
                        (most - g) ** 2 if a == b else most ** 2 + 2 * g * most - g ** 2 for a, b, g in zip(heard, word, sure))
                    self.assertEqual(weight(code, most, heard, sure, word), wanted)
                    limit = (code[3] - code[4] + 1) * most ** 2
                    self.assertEqual(is_weighed(code, most, heard, sure, word), wanted < limit)

    def test_just_below_and_at_the_limit(self):
        # Words of (2, 7, 3, 1) have one symbol three times: 3 D ** 2 is the limit.
        code = CODES[0]
        for most in (1, 2, 5):
            # One symbol is as heard, one is not, both wholly sure; the third one is not sure at all.
            self.assertEqual(weight(code, most, [1, 2, 3], [most, most, 0], [1, 1, 1]), 3 * most * most)
            self.assertFalse(is_weighed(code, most, [1, 2, 3], [most, most, 0], [1, 1, 1]))
            self.assertIsNone(weigh(code, most, [1, 2, 3], [most, most, 0]))
            # A little less sure of the wrong one.
            sure = [most, most - 1, 0]
            self.assertEqual(weight(code, most, [1, 2, 3], sure, [1, 1, 1]), 3 * most * most - 1)
            self.assertTrue(is_weighed(code, most, [1, 2, 3], sure, [1, 1, 1]))
            self.assertEqual(weigh(code, most, [1, 2, 3], sure), [1, 1, 1])

    def test_things_of_any_kind_that_are_no_words(self):
        code = CODES[0]
        sure = [4, 4, 4]
        self.assertTrue(is_weighed(code, 4, [1, 1, 1], sure, [1, 1, 1]))
        for thing in ANY + [(1, 1, 1), [1, 1], [1, 1, 1, 1], [True, True, True], [1, 1, True], [1.0, 1, 1], [1, 1, 2], [4, 4, 4],
                            [-1, -1, -1], ["1", "1", "1"], [None] * 3, {1: 1}, [[1], [1], [1]]]:
            self.assertFalse(is_weighed(code, 4, [1, 1, 1], sure, thing), thing)

    def test_at_most_one_word_is_weighed_in_and_it_is_found(self):
        source = random.Random(385)
        found = []
        for _ in range(600):
            code = source.choice(CODES)
            most = source.choice((0, 1, 2, 3, 8, 50))
            heard = list(source.choice(all_words(code)))
            few = [source.randint(0, most) for _ in range(source.randint(1, 3))]
            sure = [source.choice(few) if source.random() < 0.8 else source.randint(0, most) for _ in heard]
            for place in source.sample(range(code[3]), source.randint(0, code[3] - code[4] + 1)):
                heard[place] = source.randrange(2 ** code[1])
                if source.random() < 0.6:
                    sure[place] = source.randint(0, most // 2)
            told = [word for word in all_words(code) if is_weighed(code, most, heard, sure, word)]
            self.assertLessEqual(len(told), 1)
            self.assertEqual(weigh(code, most, heard, sure), told[0] if told else None)
            found.append((bool(told), most > 0 and len(set(sure)) < len(sure)))
        for kind in ((True, True), (True, False), (False, True)):
            self.assertGreater(found.count(kind), 25, kind)

    def test_a_word_that_plain_mending_does_not_find(self):
        code = ("words", 3, 11, 7, 3)
        word = encode(code, [1, 2, 3])
        heard = [symbol ^ 1 if place < 3 else symbol for place, symbol in enumerate(word)]
        self.assertEqual(weigh(code, 9, heard, [2, 2, 2, 9, 9, 9, 9]), word)
        self.assertIsNone(weigh(code, 9, heard, [9] * 7))
        # All four symbols that are too many may be wrong, if none of them is sure.
        heard = [symbol ^ 1 if place < 4 else symbol for place, symbol in enumerate(word)]
        self.assertEqual(weigh(code, 9, heard, [0, 0, 0, 0, 9, 9, 9]), word)
        # Symbols that are equally sure, but not at all: no word.
        self.assertIsNone(weigh(code, 9, word, [0] * 7))
        self.assertEqual(weigh(code, 9, word, [5] * 7), word)


def weighed_by_hand(fields, samples):
    """Points 21.2 to 21.5, word by word: the triple, the heard symbols, how sure they are, D, the words and the answer."""
    found = found_by_hand(fields, samples)
    verdicts = verdicts_by_hand(fields, found, samples)
    line, _ = windows_by_hand(fields, found, samples)
    most = nearest_pair(fields["sender"], line, link_of(fields).blocks())[0]
    sure_runs = [0 if told[0] == "tie" else most if told[3] is None else min(most, told[3]) for told in verdicts]
    symbols, _ = symbols_by_hand(fields, verdicts)
    sure = [[None] * len(word) for word in symbols]
    for (word, place), runs in runs_touched(fields).items():
        sure[word][place] = min(sure_runs[run] for run in runs)
    words = []
    for heard, told in zip(symbols, sure):
        inside = [word for word in all_words(fields["code"]) if is_weighed(fields["code"], most, heard, told, word)]
        words.append(inside[0] if inside else None)
    return found, words, answer_by_hand(fields, words)


class Heard(unittest.TestCase):
    def agrees(self, fields, samples):
        link = link_of(fields)
        answer, paper = hear_weighed(link, samples)
        found, words, wanted = weighed_by_hand(fields, samples)
        self.assertEqual(answer, wanted)
        if answer[0] == "refused":
            self.assertIsNone(paper)
        else:
            line, windows = windows_by_hand(fields, found, samples)
            papers = [exact_paper(trellis_of(link.sender, line, link.blocks(), window)) for window in windows]
            self.assertEqual(paper, ("weighed", found, papers, words))
            self.assertEqual(audit_weighed(link, samples, paper), answer[1])
        return answer

    def test_without_noise(self):
        source = random.Random(386)
        for fields in SOON + (PLAIN, EMPTY, WIDE):
            link = link_of(fields)
            for turn in range(4):
                message = [source.randrange(256) for _ in range(link.most_bytes())]
                samples = frame_samples(link, message, place=fields["slack"] // 2, turn=turn, number=len(fields["lines"]) - 1)
                answer, paper = hear_weighed(link, samples)
                self.assertEqual(answer, ("heard", message))
                self.assertEqual(paper[3], words_for(link, message))
                self.assertEqual(audit_weighed(link, samples, paper), message)

    def test_where_plain_hearing_refuses(self):
        source = random.Random(387)
        kinds = []
        for fields in SOON:
            link = link_of(fields)
            for _ in range(40):
                message = [source.randrange(256) for _ in range(link.most_bytes())]
                triple = (source.randint(0, fields["slack"]), source.randrange(4), source.randrange(2))
                samples = frame_samples(link, message, place=triple[0], turn=triple[1], number=triple[2])
                samples = noisy(source, samples, source.choice((1, 1, 2)), source.random())
                samples = spoilt(source, fields, triple, samples, source.sample(range(4), source.randint(0, 1)))
                answer = self.agrees(fields, samples)
                kinds.append((answer[0], hear(link, samples)[0][0]))
        for kind in (("heard", "heard"), ("heard", "refused"), ("refused", "refused")):
            self.assertGreater(kinds.count(kind), 2, kind)

    def test_samples_of_any_kind(self):
        source = random.Random(388)
        for fields in SOON:
            many = link_of(fields).many_samples()
            for likely in (0, 0.2, 1):
                self.agrees(fields, [None if source.random() < likely else point for point in any_points(source, many, 4)])

    def test_refused(self):
        for fields in SOON:
            link = link_of(fields)
            for name, words in bad_words(fields).items():
                self.assertEqual(hear_weighed(link, samples_of_words(fields, words, 0, 1, 0)), (("refused", name, 0), None))
            right = words_for(link, [1])
            wrong = [[symbol ^ (1 if place < 3 else 0) for place, symbol in enumerate(word)] for word in right]
            for at, words in ((0, wrong), (1, [right[0], wrong[1]])):
                self.assertEqual(hear_weighed(link, samples_of_words(fields, words, 0, 1, 0)), (("refused", "word", at), None))

    def test_a_wrong_number_of_samples(self):
        link = link_of(LONE)
        samples = frame_samples(link, [1], place=0, turn=0, number=0)
        paper = hear_weighed(link, samples)[1]
        for wrong in ([], samples[1:], samples[:-1], samples + [None], samples * 2):
            self.assertEqual(fault(hear_weighed, link, wrong), "samples")
            for thing in [paper] + ANY:
                self.assertIsNone(audit_weighed(link, wrong, thing))


class Papers(unittest.TestCase):
    def setUp(self):
        self.link = link_of(CUT)
        samples = frame_samples(self.link, [90], place=0, turn=1, number=0)
        self.samples = lost(samples, list(run_places(CUT, (0, 1, 0), 3)))
        answer, self.paper = hear_weighed(self.link, self.samples)
        self.assertEqual(answer, ("heard", [90]))
        self.assertEqual([paper[0] for paper in self.paper[2]], ["exact", "exact", "exact", "tie"])

    def with_part(self, at, part):
        return self.paper[:at] + (part,) + self.paper[at + 1:]

    def refused(self, paper):
        self.assertIsNone(audit_weighed(self.link, self.samples, paper), paper)

    def test_things_of_any_kind(self):
        for thing in ANY + ["frame"]:
            self.refused(thing)
            for at in range(4):
                self.refused(self.with_part(at, thing))
        self.refused(list(self.paper))
        self.refused(self.paper[:3])
        self.refused(self.paper + (0,))
        self.assertEqual(audit_weighed(self.link, self.samples, self.paper), [90])

    def test_changed_parts(self):
        for triple in ((0, 0, 0), (0, 1, 1), [0, 1, 0], (0, True, 0), (0, 1), (0, 1, False), (1, 1, 0)):
            self.refused(self.with_part(1, triple))
        runs = self.paper[2]
        for wrong in (runs[:3], runs + runs[3:], tuple(runs), [runs[1], runs[0]] + runs[2:]):
            self.refused(self.with_part(2, wrong))
        line, windows = windows_by_hand(CUT, (0, 1, 0), self.samples)
        plain = [hear_run(self.link.sender, line, self.link.blocks(), window)[1] for window in windows]
        for run in range(4):
            # Plain papers of runs do not show how sure they are.
            told = runs[:run] + [plain[run]] + runs[run + 1:]
            self.assertEqual(audit_weighed(self.link, self.samples, self.with_part(2, told)), [90] if run == 3 else None)
            for at in range(1, 4):
                for thing in ANY:
                    told = runs[run][:at] + (thing,) + runs[run][at + 1:]
                    self.refused(self.with_part(2, runs[:run] + [told] + runs[run + 1:]))
        words = self.paper[3]
        for wrong in (words[:1], words * 2, tuple(words), [tuple(word) for word in words], [words[1], words[0]], [words[0], None],
                      [words[0], words[1][:-1]], words_for(self.link, [91])):
            self.refused(self.with_part(3, wrong))
        for at in range(2):
            for place in range(7):
                for symbol in (words[at][place] ^ 1, -1, None, float(words[at][place])):
                    word = words[at][:place] + [symbol] + words[at][place + 1:]
                    self.refused(self.with_part(3, words[:at] + [word] + words[at + 1:]))
        told = [[True if symbol == 1 else False if symbol == 0 else symbol for symbol in word] for word in words]
        self.assertNotEqual([list(map(str, word)) for word in told], [list(map(str, word)) for word in words])
        self.refused(self.with_part(3, told))

    def test_all_papers_that_are_taken_show_the_message_that_is_heard(self):
        source = random.Random(389)
        refused = taken = 0
        for fields in SOON:
            link = link_of(fields)
            for _ in range(12):
                samples = frame_samples(link, [source.randrange(256)], place=0, turn=0, number=0)
                near = noisy(source, samples, 1, 0.5)
                far = noisy(source, near, 1, 0.1)
                answer, paper = hear_weighed(link, near)
                for other in (paper, hear_weighed(link, far)[1]):
                    changed = copy.deepcopy(other)
                    if changed is not None and source.random() < 0.5:
                        part = source.choice([part for part in changeable(changed) if part and isinstance(part[0], int)])
                        part[source.randrange(len(part))] = source.choice((0, 1, 2, None))
                    shown = audit_weighed(link, near, changed)
                    self.assertIn(shown, (None, answer[1]))
                    refused += shown is None
                    taken += shown is not None
        self.assertGreater(min(refused, taken), 10)

    def test_any_tie_of_a_run(self):
        tie = self.paper[2][3]
        row = [0, 1] * 6 + [0, 0]
        row = row[:11] + [0] * 3
        other = [1] * 11 + [0] * 3
        told = self.with_part(2, self.paper[2][:3] + [("tie", row, other, tie[3])])
        self.assertIn(audit_weighed(self.link, self.samples, told), ([90],))


class Spread(unittest.TestCase):
    def spread_by_hand(self, fields):
        touched = []
        for (word, _), runs in runs_touched(fields).items():
            touched += [(word, run) for run in runs]
        return len(touched) == len(set(touched))

    def test_links_that_are_spread_and_such_that_are_not(self):
        wide = ("sender", ("machine", 2, 4, ((0,) * 4,), (((0, 0, 0, 0), (0, 1, 1, 0), (1, 0, 0, 1), (1, 1, 1, 1)),)), ((1,) * 4,),
                PLAIN["sender"][3])
        small = dict(LONE, code=("words", 2, 7, 3, 1), words=8, mix=("mix", 8, 3), check=("check", 1, 3))
        told = set()
        for fields in ALL + SOON + (small, dict(small, runs=3), dict(small, runs=3, sender=wide), dict(small, runs=2)):
            for mix in (fields["mix"], ("mix", 1, fields["words"] * fields["code"][3])):
                for runs in (fields["runs"], 8, 1):
                    changed = dict(fields, mix=mix, runs=runs)
                    link = link_of(changed)
                    spread = self.spread_by_hand(changed)
                    told.add(spread)
                    self.assertEqual(is_spread(link), spread)
                    if link.most_bytes() < 99:
                        _, _, _, n, k = fields["code"]
                        self.assertEqual(frame_budget(link), (n - k + 1) * run_budget(link) if spread else None)
        self.assertEqual(told, {True, False})

    def test_by_hand(self):
        self.assertTrue(is_spread(link_of(LONE)))
        self.assertEqual(frame_budget(link_of(LONE)), 5 * 4)
        for fields in (PLAIN, TINY, CUT, WIDE, dict(LONE, runs=6), dict(LONE, mix=("mix", 1, 14))):
            self.assertFalse(is_spread(link_of(fields)))
            self.assertIsNone(frame_budget(link_of(fields)))

    def test_noise_within_the_frame_budget_however_it_is_spread(self):
        source = random.Random(390)
        fields = dict(LONE, lines=(line_of((3, 0)), line_of((2, 0), (0, 1))))
        link = link_of(fields)
        budget = frame_budget(link)
        self.assertEqual(budget, 5 * run_budget(link))
        for at in range(40):
            message = [source.randrange(256)]
            found = (source.randint(0, 2), source.randrange(4), source.randrange(2))
            samples = frame_samples(link, message, place=found[0], turn=found[1], number=found[2])
            first = found[0] + starts_by_hand(fields)[0][0]
            samples = with_noise(samples, range(first), noise_below(source, first, opening_budget(link)))
            # All of it in one run, in few, or in all of them.
            runs = source.sample(range(8), (1, 2, 3, 8)[at % 4])
            places = [place for run in runs for place in run_places(fields, found, run)]
            told = with_noise(samples, places, noise_below(source, len(places), budget))
            self.assertEqual(hear_weighed(link, told)[0], ("heard", message))

    def test_wrong_symbols_within_the_frame_budget(self):
        # The symbols are 11 and -11: four samples that are moved by 12 are nearer to the wrong ones, but not very sure.
        fields = dict(LONE, lines=(line_of((11, 0)),))
        link = link_of(fields)
        self.assertEqual(frame_budget(link), 5 * 22 * 22)
        self.assertLess(4 * (4 * 12 * 12), frame_budget(link))
        samples = frame_samples(link, [33], place=0, turn=0, number=0)
        for runs in ((0, 1, 2, 3), (1, 3, 4, 6), (2, 4, 5, 6)):
            told = list(samples)
            for run in runs:
                place = run_places(fields, (0, 0, 0), run)[2]
                told[place] = (told[place][0] + (12 if told[place][0] < 0 else -12), 0)
            self.assertEqual(hear(link, told)[0][:2], ("refused", "word"))
            answer, paper = hear_weighed(link, told)
            self.assertEqual(answer, ("heard", [33]))
            self.assertEqual(audit_weighed(link, told, paper), [33])


class Kept(unittest.TestCase):
    def test_arguments_stay_and_results_are_new(self):
        for trellis in trellises(391, 12):
            stands_alone(self, exact_paper, trellis)
            stands_alone(self, check_exact, trellis, exact_paper(trellis))
            stands_alone(self, check_exact, trellis, ("exact", [0], [1], [[0]]))
        code = CODES[2]
        heard = [1, 2, 3, 4, 5, 6, 7]
        stands_alone(self, weigh, code, 4, encode(code, [1, 2]), [4, 3, 2, 1, 0, 4, 4])
        stands_alone(self, weight, code, 4, heard, [4] * 7, heard)
        stands_alone(self, is_weighed, code, 4, heard, [4] * 7, heard)
        for fields in SOON:
            link = link_of(fields)
            samples = lost(frame_samples(link, [3], place=0, turn=1, number=1), [30])
            stands_alone(self, lambda told: hear_weighed(link, told), samples)
            stands_alone(self, lambda told, paper: audit_weighed(link, told, paper), samples, hear_weighed(link, samples)[1])
            stands_alone(self, lambda: [is_spread(link), frame_budget(link)])
            self.assertEqual({name: getattr(link, name) for name in fields}, fields)

    def test_runs_are_exact(self):
        # The gap of a run is the exact one, as hear_run tells it.
        source = random.Random(392)
        for sender, line, blocks, slow in cases(393, 25):
            samples = any_samples(source, slow.size())
            verdict, _ = hear_run(sender, line, blocks, samples)
            shown = check_exact(trellis_of(sender, line, blocks, samples), exact_paper(trellis_of(sender, line, blocks, samples)))
            self.assertEqual(shown[2:] if shown[0] == "one" else shown[3:], verdict[2:] if verdict[0] == "row" else verdict[3:])


if __name__ == "__main__":
    unittest.main()
