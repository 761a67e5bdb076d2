"""Points 1.1 to 1.4, for the whole program: messages from one end to the other, papers, and errors."""

import ast
import importlib
import random
import unittest

from heardtrue.audits import audit
from heardtrue.budgets import opening_budget, run_budget, spare_runs
from heardtrue.ends import End
from heardtrue.errors import HeardError, ReadError, ShapeError
from heardtrue.frames import frame_samples
from heardtrue.hearing import hear
from heardtrue.learning import learn
from heardtrue.learnt import check_learnt
from heardtrue.lines import lost, sent
from heardtrue.links import Link
from heardtrue.lists import check_heard, hear_list
from heardtrue.notation import read_link, write_link
from heardtrue.prices import check_prices, prices_paper
from heardtrue.rings import check_ring, hear_ring, ring_samples
from heardtrue.runs import check_run, hear_run, run_samples
from heardtrue.weighing import audit_weighed, hear_weighed
from slow import SHIFT
from somelinks import PLAIN
from support import line_of
from test_hearing import noisy
from test_language import FILES

FIELDS = dict(PLAIN, words=2, mix=("mix", 2, 15), runs=5, lines=(line_of((3, 0)), line_of((2, 0), (0, 1))))


class Carried(unittest.TestCase):
    def carry(self, source, link, frame):
        """The frame as it is heard at the far end, or None if it is refused; papers show the same to anybody."""
        samples = frame_samples(
            link, frame, place=source.randint(0, link.slack), turn=source.randrange(4), number=source.randrange(2))
        samples = noisy(source, samples, 1, 0.2)
        if source.random() < 0.6:
            start = source.randrange(len(samples))
            samples = lost(samples, list(range(start, start + source.choice((20, 90, 130)))))
        told = []
        for hears, audits in ((hear, audit), (hear_weighed, audit_weighed)):
            answer, paper = hears(link, samples)
            self.assertEqual(audits(link, samples, paper), answer[1] if answer[0] == "heard" else None)
            told.append(answer[1] if answer[0] == "heard" else None)
        return told[0]

    def test_two_ends_over_links(self):
        source = random.Random(480)
        link = Link(**FIELDS)
        self.assertEqual(link.most_bytes(), 3)
        ends = [End(3, 6, 2), End(3, 6, 2)]
        messages = [[[source.randrange(256)] for _ in range(5)] for _ in range(2)]
        out, under_way, refused = [[], []], [[], []], 0
        for side in range(2):
            for message in messages[side]:
                ends[side].give(message)
        for now in range(200):
            for side in range(2):
                for frame in under_way[side]:
                    ends[side].heard(frame)
                out[side] += ends[side].taken()
                self.assertEqual(out[side], messages[1 - side][:len(out[side])])
            under_way = [[], []]
            for side in range(2):
                for frame in ends[side].tick(now):
                    heard = self.carry(source, link, frame)
                    self.assertIn(heard, (None, frame))
                    refused += heard is None
                    under_way[1 - side] += [] if heard is None else [heard]
            if all(end.is_done() for end in ends):
                break
        self.assertEqual(out, messages[::-1])
        self.assertGreater(refused, 3)

    def test_what_both_ends_know_can_be_written(self):
        link = Link(**FIELDS)
        again = read_link(write_link(link))
        samples = frame_samples(link, [1, 2, 3], place=1, turn=1, number=1)
        self.assertEqual(hear(again, samples), hear(link, samples))
        self.assertEqual((opening_budget(again), run_budget(again), spare_runs(again)),
                         (opening_budget(link), run_budget(link), spare_runs(link)))

    def test_a_line_that_was_learnt_is_one_to_hear_with(self):
        points = ((1, 0), (0, 1), (-1, 0), (1, 0))
        line = line_of((4, -1), (1, 2))
        samples = sent(line, list(points))
        verdict, paper = learn(points, 2, 5, samples)
        self.assertEqual(check_learnt(points, 2, 5, samples, paper), ("line", line[1], 0))
        heard = run_samples(SHIFT, line, [1, 0, 1])
        self.assertEqual(hear_run(SHIFT, ("line", verdict[1]), 3, heard)[0][:3], ("row", [1, 0, 1], 0))


class Papers(unittest.TestCase):
    def test_the_samples_alone_decide_what_a_taken_paper_can_say(self):
        source = random.Random(481)
        line = line_of((1, 0), (1, 1))
        for _ in range(10):
            row = [source.randrange(2) for _ in range(4)]
            samples = noisy(source, run_samples(SHIFT, line, row), 1, 0.5)
            others = noisy(source, samples, 1, 0.5)
            verdict = hear_run(SHIFT, line, 4, samples)[0]
            told = check_run(SHIFT, line, 4, samples, hear_run(SHIFT, line, 4, others)[1])
            self.assertTrue(told is None or told[:3] == verdict[:3])
            told = check_prices(SHIFT, line, 4, samples, prices_paper(SHIFT, line, 4, others))
            self.assertIn(told, (None, check_prices(SHIFT, line, 4, samples, prices_paper(SHIFT, line, 4, samples))))
            rows, _ = hear_list(SHIFT, line, 4, samples, cost=30, most=99)
            paper = hear_list(SHIFT, line, 4, others, cost=30, most=99)[1]
            self.assertIn(check_heard(SHIFT, line, 4, samples, cost=30, paper=paper), (None, rows))
            ring = ring_samples(SHIFT, line, 1, [1, 0, 1, 0])
            verdict, paper = hear_ring(SHIFT, line, 4, ring)
            self.assertEqual(check_ring(SHIFT, line, 4, ring, paper), verdict)


class Errors(unittest.TestCase):
    def test_all_errors_are_classes_under_one(self):
        self.assertTrue(issubclass(ShapeError, HeardError) and issubclass(ReadError, HeardError))
        classes = {"ShapeError", "ReadError"}
        for path in FILES:
            for node in ast.walk(ast.parse(path.read_text())):
                if isinstance(node, ast.Raise):
                    self.assertIn(node.exc.func.id, classes, path)
                if isinstance(node, ast.ClassDef) and path.stem != "errors":
                    self.assertEqual(node.bases, [], path)

    def test_no_clock_no_random_numbers_and_no_files(self):
        allowed = {"heapq", "math"}
        for path in FILES:
            for node in ast.walk(ast.parse(path.read_text())):
                self.assertNotIsInstance(node, (ast.Import, ast.Global))
                if isinstance(node, ast.ImportFrom):
                    self.assertTrue(node.module in allowed or node.module.startswith("heardtrue."), path)
            importlib.import_module("heardtrue" if path.stem == "__init__" else f"heardtrue.{path.stem}")


if __name__ == "__main__":
    unittest.main()
