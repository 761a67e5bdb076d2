"""The interface of the document: its names, its arguments and its examples, as they are written there."""

import doctest
import importlib
import inspect
import unittest
from pathlib import Path

README = Path(__file__).resolve().parent.parent / "README.md"

NAMES = {
    "points": ["plus(one, other)", "minus(one, other)", "times(one, other)", "turned(point, quarters)", "size(point)",
               "total(points)"],
    "symbols": ["number_of(bits)", "bits_of(number, many)", "check_symbols(symbols)", "levels(bits)", "square(bits)",
                "points_of(symbols, row)", "nearest(symbols, point)", "row_near(symbols, points)", "closeness(symbols)"],
    "lines": ["check_line(line)", "reach(line)", "sent(line, points)", "joined(one, other)",
              "turned_line(line, quarters)", "spoiled(samples, noise)", "lost(samples, places)", "cost(samples, points)"],
    "machines": ["is_machine(thing)", "check_machine(machine)", "shift_machine(polys)", "choices_of(machine, row)",
                 "row_of(machine, choices)", "run(machine, state, choices)", "ways_back(machine, steps)",
                 "tail_steps(machine, unit)"],
    "composing": ["behind(first, second)", "reached(machine)", "reduced(machine)", "unlike(first, second)",
                  "loses(machine)", "delay(machine)"],
    "senders": ["check_sender(sender)", "sizes(sender)", "block(sender, state, label)", "blocks_of(sender)",
                "tail(sender)", "ways_home(sender, blocks)", "labels_in(sender, row)", "tied(sender, row)",
                "points_for(sender, row)", "walked(sender, labels)"],
    "trellises": ["is_trellis(thing)", "check_trellis(trellis)", "cost_of(trellis, labels)", "best_path(trellis)",
                  "apart(trellis, labels)", "two_best(trellis)"],
    "potentials": ["potentials_of(trellis)", "are_right(trellis, table)", "least_end(trellis, table)",
                   "paper_of(trellis)", "check_paper(trellis, paper)"],
    "smears": ["first_room(line)", "step(sender, line, room, label)", "silence(sender, line, room)",
               "room_rows(sender, line, blocks)", "run_size(sender, line, blocks)",
               "trellis_of(sender, line, blocks, samples)"],
    "runs": ["run_samples(sender, line, row)", "hear_run(sender, line, blocks, samples)",
             "check_run(sender, line, blocks, samples, paper)", "blocks_in(sender, row)"],
    "distances": ["pair_trellis(sender, line, blocks)", "nearest_pair(sender, line, blocks)",
                  "distance(sender, line, blocks)", "distance_paper(sender, line, blocks)",
                  "check_distance(sender, line, blocks, paper)", "halfway(sender, line, row, other)"],
    "freedoms": ["free_distance(sender, line)", "free_paper(sender, line)", "check_free(sender, line, paper)",
                 "ring(sender, line)", "most_parted(sender, line, cost)"],
    "fields": ["is_primitive(m, poly)"],
    "polynomials": ["trimmed(row)", "plus(f, g)", "times(field, f, g)", "divided(field, f, g)", "value(field, f, at)",
                    "slope(f)", "roots(field, f)", "through(field, pairs)"],
    "words": ["check_words(code)", "encode(code, symbols)", "is_word(code, row)", "signs(code, row)",
              "mend(code, heard, gaps)", "is_mended(code, heard, gaps, word)"],
    "mixing": ["check_mix(mix, words, n)", "order_of(mix, words, n)", "most_hit(mix, words, n, first, last)",
               "worst(mix, words, n, length)", "check_delays(delays)", "delayed(delays, row)",
               "undelayed(delays, row)"],
    "checks": ["check_check(check)", "check_bits(check, row)", "is_right(check, row)", "span(check)",
               "fewest_unseen(check, length)"],
    "scramblers": ["check_scrambler(scrambler)", "check_feed(feed)", "key_of(scrambler, length)",
                   "scrambled(scrambler, row)", "period(scrambler)", "fed(feed, row)", "unfed(feed, row)"],
    "slips": ["slipped(samples, copies)", "slip_trellis(sender, line, blocks, most, samples, row=None)",
              "hear_slipped(sender, line, blocks, most, samples)",
              "check_slipped(sender, line, blocks, most, samples, paper)"],
    "openings": ["check_opening(opening)", "turned(point, turn)", "shape(opening, line, turn)",
                 "arrival(opening, lines, slack, guess)", "cost(opening, lines, guess, samples)",
                 "find(opening, lines, slack, samples)", "separation(opening, lines, slack)"],
    "frames": ["message_bits(link, message)", "words_for(link, message)", "rows_for(link, message)",
               "frame_points(link, message)", "message_in(link, row)",
               "frame_samples(link, message, *, place, turn, number)"],
}
CLASSES = {
    "errors": ["HeardError", "ShapeError", "ReadError"], "pairs": ["Pairs"], "fields": ["Field"], "links": ["Link"],
}
METHODS = {
    ("pairs", "Pairs"): ["__init__(self, parts)", "begin(self, state)", "is_together(self, room)",
                         "step(self, room, one, other)", "silence(self, room)", "trellis(self, blocks)"],
    ("fields", "Field"): ["__init__(self, m, poly)", "times(self, a, b)", "inverse(self, a)", "power(self, e)",
                          "place(self, a)"],
    ("links", "Link"): ["__init__(self, *, opening, lines, slack, sender, code, words, mix, check, scrambler, runs)",
                        "told_bits(self)", "sent_bits(self)", "most_bytes(self)", "blocks(self)", "run_points(self)",
                        "run_start(self, run)", "frame_points(self)", "many_samples(self)"],
}

EXAMPLES = {
    "symbols": """
>>> from heardtrue.symbols import closeness, levels, points_of, row_near, square
>>> [levels(2), closeness(levels(2)), closeness(square(2))]
[('symbols', 2, ((-3, 0), (-1, 0), (3, 0), (1, 0))), 4, 4]
>>> [points_of(square(2), [0, 1, 1, 1]), row_near(square(2), [(0, 9), (5, -2)])]
[[(-1, 1), (1, 1)], [0, 1, 1, 0]]
""",
    "lines": """
>>> from heardtrue.lines import cost, joined, sent
>>> line = ("line", ((2, 0), (0, 1)))
>>> [sent(line, [(1, 1), (-1, 0)]), joined(line, ("line", ((1, 0), (0, -1))))]
[[(2, 2), (-3, 1), (0, -1)], ('line', ((2, 0), (0, -1), (1, 0)))]
>>> cost([(2, 2), None, (0, 1)], sent(line, [(1, 1), (-1, 0)]))
4
""",
    "machines": """
>>> from heardtrue.machines import shift_machine, run, tail_steps, ways_back
>>> machine = shift_machine((7, 5))
>>> machine[3]
((0, 2), (0, 2), (1, 3), (1, 3))
>>> run(machine, 0, [1, 0, 1])
(2, [1, 1, 1, 0, 0, 0])
>>> [ways_back(machine, 1), ways_back(machine, 2)[3], tail_steps(machine, 1), tail_steps(machine, 3)]
[{0: [0], 1: [0]}, [0, 0], 2, 3]
""",
    "composing": """
>>> from heardtrue.composing import behind, delay, loses, reduced, unlike
>>> from heardtrue.machines import shift_machine
>>> [loses(shift_machine((7, 5))), delay(shift_machine((7, 5))), loses(shift_machine((0, 0)))]
[None, 0, ('merge', [0], [1])]
>>> late = ("machine", 1, 1, ((0, 1), (0, 1)), (((0,), (0,)), ((1,), (1,))))
>>> [delay(late), len(reduced(behind(shift_machine((1,)), shift_machine((3, 1))))[3])]
[1, 2]
>>> loses(("machine", 1, 1, ((1, 2), (1, 1), (2, 2)), (((0,), (0,)), ((0,), (1,)), ((0,), (1,)))))
('ring', [0], [1], [0], [0])
>>> unlike(shift_machine((7, 5)), shift_machine((7, 7)))
[1, 0]
""",
    "senders": """
>>> from heardtrue.machines import shift_machine
>>> from heardtrue.senders import points_for, sizes, tail, tied
>>> from heardtrue.symbols import levels
>>> sender = ("sender", shift_machine((7, 5)), ((1, 1), (0, 1)), levels(1))
>>> [sizes(sender), tail(sender), tied(sender, [1, 1])]
[(2, 3), (1, {0: [0], 1: [0], 2: [0], 3: [0]}), [1, 1, 0, 0]]
>>> points_for(sender, [1, 1])
[(1, 0), (1, 0), (1, 0)]
""",
    "trellises": """
>>> from heardtrue.trellises import apart, best_path, cost_of, two_best
>>> trellis = ("trellis", (1, 2, 1), [[(0, 0, 0, 3), (0, 1, 1, 1)], [(0, 0, 0, 0), (1, 0, 0, 2), (1, 0, 1, 4)]], (0,))
>>> [best_path(trellis), two_best(trellis), cost_of(trellis, [1, 1]), cost_of(trellis, [0, 1])]
[([0, 0], 3), [([0, 0], 3), ([1, 0], 3)], 5, None]
>>> apart(trellis, [0, 0])[1]
(1, 3, 2)
>>> apart(trellis, [0, 0])[2]
[[(0, 2, 0, 3), (0, 1, 1, 1)], [(0, 0, 0, 0), (1, 0, 0, 2), (1, 0, 1, 4), (2, 1, 0, 0)]]
""",
    "potentials": """
>>> from heardtrue.potentials import check_paper, paper_of
>>> trellis = ("trellis", (1, 1), [[(0, 0, 0, 5), (0, 0, 3, 2)]], (0,))
>>> paper_of(trellis)
('one', [3], [[0], [5, 2]])
>>> [check_paper(trellis, paper_of(trellis)), check_paper(trellis, ("one", [3], [[0], [4, 0]])), check_paper(trellis, ("one", [0], [[0], [2, 5]]))]
[('one', [3], 2, 3), ('one', [3], 2, 2), None]
""",
    "runs": """
>>> from heardtrue.machines import shift_machine
>>> from heardtrue.runs import hear_run, run_samples
>>> from heardtrue.symbols import levels
>>> sender = ("sender", shift_machine((7, 5)), ((1, 1),), levels(1))
>>> line = ("line", ((1, 0), (1, 0)))
>>> clear = run_samples(sender, line, [1, 0])
>>> clear
[(1, 0), (2, 0), (2, 0), (0, 0), (0, 0), (2, 0), (0, 0), (-2, 0), (-1, 0)]
>>> hear_run(sender, line, 2, clear)[0]
('row', [1, 0], 0, 32)
>>> hear_run(sender, line, 2, [None] * 9)[0]
('tie', [0, 0], [0, 1], 0)
""",
    "distances": """
>>> from heardtrue.distances import check_distance, distance, distance_paper, halfway, nearest_pair
>>> from heardtrue.machines import shift_machine
>>> from heardtrue.symbols import levels
>>> sender, line = ("sender", shift_machine((1,)), ((1,),), levels(1)), ("line", ((1, 0), (1, 0)))
>>> [nearest_pair(sender, line, 1), nearest_pair(sender, line, 2), distance(sender, line, 0)]
[(8, [0], [1]), (8, [0, 0], [0, 1]), None]
>>> check_distance(sender, line, 1, distance_paper(sender, line, 1))
(8, [0], [1])
>>> halfway(sender, line, [0, 1], [1, 1])
[(0, 0), (1, 0), (1, 0)]
""",
    "freedoms": """
>>> from heardtrue.freedoms import check_free, free_distance, free_paper, most_parted, ring
>>> from heardtrue.machines import shift_machine
>>> from heardtrue.symbols import levels
>>> one = ("line", ((1, 0),))
>>> sender = ("sender", shift_machine((7, 5)), ((1, 1),), levels(1))
>>> [free_distance(sender, one), ring(sender, one), most_parted(sender, one, 4), most_parted(sender, one, 8)]
[20, None, 0, 1]
>>> check_free(sender, one, free_paper(sender, one))
20
>>> ring(("sender", shift_machine((3, 3)), ((1, 1),), levels(1)), one)
('ring', [0], [1], [0], [1])
""",
    "fields": """
>>> from heardtrue.fields import Field
>>> field = Field(3, 11)
>>> [field.times(6, 7), field.inverse(6), field.power(3), field.place(6), field.power(-1)]
[4, 3, 3, 4, 5]
""",
    "polynomials": """
>>> from heardtrue.fields import Field
>>> from heardtrue.polynomials import divided, roots, times, value
>>> field = Field(3, 11)
>>> times(field, [2, 1], [4, 1])
[3, 6, 1]
>>> [roots(field, [3, 6, 1]), value(field, [3, 6, 1], 0), divided(field, [3, 6, 1], [2, 1])]
[[2, 4], 3, ([4, 1], [])]
""",
    "words": """
>>> from heardtrue.words import encode, mend
>>> code = ("words", 3, 11, 7, 3)
>>> encode(code, [1, 0, 0])
[1, 0, 0, 6, 1, 6, 7]
>>> mend(code, [1, 0, 5, 6, 1, 6, 3], [])
([1, 0, 0, 6, 1, 6, 7], [2, 6], [])
>>> mend(code, [1, 0, 5, 6, 1, 6, 3], [0, 2])
([1, 0, 0, 6, 1, 6, 7], [6], [0, 2])
>>> mend(code, [1, 0, 5, 6, 1, 6, 3], [0]) is None
True
""",
    "mixing": """
>>> from heardtrue.mixing import delayed, most_hit, order_of, undelayed
>>> order_of(("mix", 2, 3), 2, 3)
[(0, 0), (1, 0), (0, 1), (1, 1), (0, 2), (1, 2)]
>>> [most_hit(("mix", 2, 3), 2, 3, 1, 4), most_hit(("mix", 3, 2), 2, 3, 0, 3)]
[[1, 2], [2, 1]]
>>> [delayed(("delays", 2, 1), [5, 6, 7, 8]), undelayed(("delays", 2, 1), [5, 0, 7, 6, 9, 8])]
[[5, 0, 7, 6, 0, 8], [5, 6, 7, 8]]
""",
    "checks": """
>>> from heardtrue.checks import check_bits, fewest_unseen, is_right, span
>>> check = ("check", 3, 11)
>>> [check_bits(check, [1, 0, 1, 1]), is_right(check, [1, 0, 1, 1, 0, 0, 0]), span(check)]
[[0, 0, 0], True, 7]
>>> [fewest_unseen(check, 3), fewest_unseen(check, 5), fewest_unseen(check, 8)]
[None, (3, [0, 1, 0, 1, 1]), (2, [1, 0, 0, 0, 0, 0, 0, 1])]
""",
    "scramblers": """
>>> from heardtrue.scramblers import fed, key_of, period, scrambled, unfed
>>> [key_of(("scramble", 3, 11, 4), 8), period(("scramble", 3, 11, 4)), scrambled(("scramble", 3, 11, 4), [1, 1, 1, 1])]
[[1, 0, 0, 1, 1, 1, 0, 1], 7, [0, 1, 1, 0]]
>>> [fed(("feed", 2, 7), [1, 0, 0, 0]), unfed(("feed", 2, 7), [1, 1, 0, 1])]
[[1, 1, 0, 1], [1, 0, 0, 0]]
""",
    "slips": """
>>> from heardtrue.slips import slipped
>>> slipped([(1, 0), (2, 0), (3, 0)], [1, 0, 2])
[(1, 0), (3, 0), (3, 0)]
""",
    "openings": """
>>> from heardtrue.openings import find, separation, shape
>>> opening = ((2, 0), (0, 2), (2, 0))
>>> lines = [("line", ((1, 0),)), ("line", ((1, 0), (1, 0)))]
>>> shape(opening, lines[1], 1)
[(0, 2), (-2, 2), (-2, 2)]
>>> find(opening, lines, 2, [(0, 0), (0, 1), (-2, 2), (-2, 2), (0, 2)])
(1, 1, 1)
""",
}


def module(name):
    return importlib.import_module(f"heardtrue.{name}")


class Names(unittest.TestCase):
    def test_functions_and_their_arguments(self):
        for name, calls in NAMES.items():
            for call in calls:
                function = getattr(module(name), call.split("(")[0])
                self.assertEqual(function.__name__ + str(inspect.signature(function)), call)

    def test_all_stand_in_their_own_file(self):
        for name, calls in list(NAMES.items()) + list(CLASSES.items()):
            for call in calls:
                self.assertEqual(getattr(module(name), call.split("(")[0]).__module__, f"heardtrue.{name}")

    def test_methods_stand_in_their_own_class(self):
        for (name, owner), calls in METHODS.items():
            held = vars(getattr(module(name), owner))
            for call in calls:
                method = held[call.split("(")[0]]
                self.assertEqual(method.__name__ + str(inspect.signature(method)), call)


class Examples(unittest.TestCase):
    def holds(self, name, text):
        example = doctest.DocTestParser().get_doctest(text, {}, name, None, 0)
        told = []
        runner = doctest.DocTestRunner()
        runner.run(example, out=told.append)
        self.assertGreater(runner.tries, 0)
        self.assertEqual("".join(told), "")

    def test_each_example_as_it_is_written(self):
        for name, text in EXAMPLES.items():
            self.holds(name, text)

    def test_those_of_the_readme(self):
        fenced = README.read_text().split("```\n")[1::2]
        self.holds("README", "\n".join(part for part in fenced if part.startswith(">>>")))


if __name__ == "__main__":
    unittest.main()
