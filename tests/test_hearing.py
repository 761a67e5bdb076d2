"""Points 16.1 and 16.2: frames that are heard."""

import random
import unittest
from itertools import combinations

from heardtrue.audits import audit
from heardtrue.errors import ShapeError
from heardtrue.frames import frame_samples, words_for
from heardtrue.hearing import hear
from heardtrue.lines import lost
from heardtrue.runs import hear_run, run_samples
from slowlinks import (
    CUT, LONE, SOON, TINY, bad_words, heard_by_hand, link_of, run_places, samples_of_words, symbols_by_hand,
    verdicts_by_hand, windows_by_hand,
)
from somelinks import EMPTY, GREAT, PLAIN, WIDE
from support import any_points, fault, line_of, stands_alone


def noisy(source, samples, most, likely):
    """The samples with noise at some places."""
    noise = [point if source.random() < likely else (0, 0) for point in any_points(source, len(samples), most)]
    return [None if s is None else (s[0] + n[0], s[1] + n[1]) for s, n in zip(samples, noise)]


def spoilt(source, fields, found, samples, runs):
    """The samples with these runs lost, thrown into confusion, or sent as other rows."""
    samples = list(samples)
    for run in runs:
        how = source.randrange(3)
        places = list(run_places(fields, found, run))
        more = [None] * len(places) if how == 0 else any_points(source, len(places), 9)
        if how == 2:
            line, _ = windows_by_hand(fields, found, samples)
            link = link_of(fields)
            bits = len(words_bits(link)) // fields["runs"]
            more = run_samples(link.sender, line, [source.randrange(2) for _ in range(bits)])
        for place, sample in zip(places, more):
            samples[place] = sample
    return samples


def words_bits(link):
    return [0] * (link.runs * link.blocks() * len(link.sender[2]) * link.sender[1][1])


class Heard(unittest.TestCase):
    def agrees(self, fields, samples):
        """hear is what the words of the document tell; returns the answer."""
        link = link_of(fields)
        answer, paper = hear(link, samples)
        found, verdicts, words, wanted = heard_by_hand(fields, samples)
        self.assertEqual(answer, wanted)
        if answer[0] == "refused":
            self.assertIsNone(paper)
        else:
            line, windows = windows_by_hand(fields, found, samples)
            papers = [hear_run(link.sender, line, link.blocks(), window)[1] for window in windows]
            self.assertEqual(paper, ("frame", found, papers, words))
        return answer

    def test_all_places_turns_and_lines_without_noise(self):
        source = random.Random(300)
        for fields in SOON + (PLAIN,):
            link = link_of(fields)
            for place in range(fields["slack"] + 1):
                for turn in range(4):
                    for number in range(len(fields["lines"])):
                        message = [source.randrange(256) for _ in range(source.randint(0, link.most_bytes()))]
                        samples = frame_samples(link, message, place=place, turn=turn, number=number)
                        answer, paper = hear(link, samples)
                        self.assertEqual(answer, ("heard", message))
                        self.assertEqual(paper[0], "frame")
                        self.assertEqual(paper[1], (place, turn, number))
                        self.assertEqual(len(paper[2]), fields["runs"])
                        self.assertEqual(paper[3], words_for(link, message))

    def test_a_wide_link(self):
        link = link_of(WIDE)
        for place, turn, number in ((0, 0, 0), (4, 3, 1), (1, 2, 1)):
            samples = frame_samples(link, [1, 2, 255], place=place, turn=turn, number=number)
            self.assertEqual(hear(link, samples)[0], ("heard", [1, 2, 255]))

    def test_a_message_without_bytes(self):
        link = link_of(EMPTY)
        self.assertEqual(hear(link, frame_samples(link, [], place=1, turn=3, number=0))[0], ("heard", []))

    def test_a_great_link(self):
        fields = dict(GREAT, opening=((9, 0), (0, 9), (9, 9)) + ((0, 0),) * 61, slack=7, lines=(line_of((3, 0), (1, 1)),))
        link = link_of(fields)
        message = [(7 * at + at * at) % 256 for at in range(link.most_bytes())]
        samples = frame_samples(link, message, place=5, turn=1, number=0)
        # One of the eight runs touches 32 symbols of each word: there is room for three of them.
        places = [place for run in (1, 4, 6) for place in range(5 + link.run_start(run), 5 + link.run_start(run) + 99)]
        for place in places:
            samples[place] = (samples[place][0] + place % 7 * 5, samples[place][1] - place % 5 * 8)
        self.assertEqual(hear(link, samples)[0], ("heard", message))

    def test_noise(self):
        source = random.Random(301)
        answers = []
        for fields in SOON:
            link = link_of(fields)
            for _ in range(25):
                message = [source.randrange(256) for _ in range(link.most_bytes())]
                place, turn = source.randint(0, fields["slack"]), source.randrange(4)
                samples = frame_samples(link, message, place=place, turn=turn, number=source.randrange(2))
                answers.append(self.agrees(fields, noisy(source, samples, source.choice((1, 2, 4)), source.random()))[:2])
        heard = [answer[0] for answer in answers]
        self.assertGreater(heard.count("heard"), 15)
        self.assertGreater(answers.count(("refused", "word")), 10)

    def test_runs_that_are_spoilt_in_any_way_or_lost(self):
        source = random.Random(302)
        kinds = []
        for fields in SOON:
            link = link_of(fields)
            for _ in range(30):
                message = [source.randrange(256) for _ in range(link.most_bytes())]
                found = (source.randint(0, fields["slack"]), source.randrange(4), source.randrange(2))
                samples = frame_samples(link, message, place=found[0], turn=found[1], number=found[2])
                runs = source.sample(range(fields["runs"]), source.randint(1, 3))
                answer = self.agrees(fields, spoilt(source, fields, found, samples, runs))
                kinds.append("right" if answer == ("heard", message) else answer[0])
        self.assertGreater(kinds.count("right"), 10)
        self.assertGreater(kinds.count("refused"), 10)

    def test_samples_of_any_kind(self):
        source = random.Random(303)
        names = set()
        for fields in SOON:
            many = link_of(fields).many_samples()
            for most in (0, 1, 9):
                for likely in (0, 0.2, 1):
                    samples = [None if source.random() < likely else point for point in any_points(source, many, most)]
                    names.add(self.agrees(fields, samples)[1])
        self.assertIn("word", names)


    def test_the_greatest_numbers_of_all_parts(self):
        source = random.Random(305)
        lines = tuple(line_of((3, 0), (at, 1), (0, -at)) for at in range(4))
        fields = dict(GREAT, opening=tuple(any_points(source, 64, 1000)), lines=lines)
        link = link_of(fields)
        message = [source.randrange(256) for _ in range(link.most_bytes())]
        samples = frame_samples(link, message, place=50, turn=3, number=2)
        self.assertEqual(len(samples), 64 + 53 + 8 * (1021 + 3) + 50)
        samples = noisy(source, samples, 1, 0.1)
        # Of 223 symbols that a word has more, one run that is lost takes 32.
        start = 50 + link.run_start(6)
        samples = lost(samples, list(range(start, start + link.run_points())))
        answer, paper = hear(link, samples)
        self.assertEqual((answer, paper[1]), (("heard", message), (50, 3, 2)))
        self.assertEqual([told[0] for told in paper[2]], ["one"] * 6 + ["tie", "one"])
        self.assertEqual(audit(link, samples, paper), message)


class Gaps(unittest.TestCase):
    def test_lost_runs_make_gaps_as_far_as_there_is_room(self):
        # Each run of TINY sends three symbols: two of one word and one of the other one, or one and two.
        link = link_of(TINY)
        samples = frame_samples(link, [77], place=1, turn=1, number=1)
        for many in range(4):
            for runs in combinations(range(5), many):
                left = lost(samples, [place for run in runs for place in run_places(TINY, (1, 1, 1), run)])
                symbols, gaps = symbols_by_hand(TINY, verdicts_by_hand(TINY, (1, 1, 1), left))
                room = [len(places) <= 4 for places in gaps]
                answer, _ = hear(link, left)
                self.assertEqual(answer, ("heard", [77]) if all(room) else ("refused", "word", room.index(False)))

    def test_a_symbol_is_a_gap_if_some_bit_was_sent_in_a_tie(self):
        link = link_of(CUT)
        samples = frame_samples(link, [129], place=0, turn=0, number=1)
        samples = lost(samples, list(run_places(CUT, (0, 0, 1), 1)))
        _, gaps = symbols_by_hand(CUT, verdicts_by_hand(CUT, (0, 0, 1), samples))
        # The run sends the bits 11 to 21: of the symbols 3 to 7 in the order of sending.
        self.assertEqual(gaps, [[1, 6], [1, 3, 5]])
        self.assertEqual(hear(link, samples)[0], ("heard", [129]))

    def test_half_way_between_two_rows_there_are_gaps(self):
        link = link_of(LONE)
        samples = frame_samples(link, [5], place=0, turn=0, number=0)
        # (0, 0) is as far from both symbols: one such sample makes a tie, and a gap of both symbols of the run.
        for many in range(6):
            left = list(samples)
            for run in range(many):
                left[list(run_places(LONE, (0, 0, 0), run))[run]] = (0, 0)
            _, verdicts, _, _ = heard_by_hand(LONE, left)
            self.assertEqual([verdict[0] for verdict in verdicts], ["tie"] * many + ["row"] * (8 - many))
            self.assertEqual(symbols_by_hand(LONE, verdicts)[1], [list(range(many))] * 2)
            self.assertEqual(hear(link, left)[0], ("heard", [5]) if many <= 4 else ("refused", "word", 0))


class Refused(unittest.TestCase):
    def test_the_first_word_that_cannot_be_mended(self):
        fields = dict(TINY, words=3, mix=("mix", 3, 7), runs=7)
        link = link_of(fields)
        right = words_for(link, [3, 9])
        for broken in ([0], [1], [2], [0, 2], [1, 2], [0, 1, 2]):
            words = [list(word) for word in right]
            for at in broken:
                # Three symbols are wrong: the words of the code differ at five places, so no word is near enough.
                words[at][0] ^= 1
                words[at][3] ^= 2
                words[at][6] ^= 5
            answer, paper = hear(link, samples_of_words(fields, words, 1, 2, 0))
            _, _, mended, _ = heard_by_hand(fields, samples_of_words(fields, words, 1, 2, 0))
            self.assertEqual([at for at in range(3) if mended[at] is None], broken)
            self.assertEqual((answer, paper), (("refused", "word", broken[0]), None))

    def test_words_that_tell_no_message(self):
        told = set()
        for fields in SOON + (PLAIN,):
            link = link_of(fields)
            for name, words in bad_words(fields).items():
                for place, turn in ((0, 0), (fields["slack"], 3)):
                    samples = samples_of_words(fields, words, place, turn, 0)
                    self.assertEqual(hear(link, samples), (("refused", name, 0), None))
                told.add(name)
        self.assertEqual(told, {"check", "length", "filling"})

    def test_a_wrong_number_of_samples(self):
        for fields in SOON + (EMPTY,):
            link = link_of(fields)
            many = link.many_samples()
            samples = frame_samples(link, [], place=0, turn=0, number=0)
            for wrong in ([], samples[:-1], samples[1:], samples + [None], samples + samples):
                self.assertEqual(fault(hear, link, wrong), "samples")
            self.assertEqual(len(samples), many)
            with self.assertRaises(ShapeError):
                hear(link, [None] * (many + 1))


class Kept(unittest.TestCase):
    def test_arguments_stay_and_results_are_new(self):
        source = random.Random(304)
        for fields in SOON:
            link = link_of(fields)
            samples = frame_samples(link, [0] * link.most_bytes(), place=0, turn=1, number=1)
            for told in (samples, lost(samples, [30, 40]), noisy(source, samples, 9, 1)):
                stands_alone(self, lambda given: hear(link, given), told)
            self.assertEqual({name: getattr(link, name) for name in fields}, fields)


if __name__ == "__main__":
    unittest.main()
