"""The interface of the document: its names, its arguments and its examples, as they are written there."""

import doctest
import importlib
import inspect
import unittest
from pathlib import Path

README = Path(__file__).resolve().parent.parent / "README.md"

NAMES = {
    "points": ["plus(one, other)", "minus(one, other)", "times(one, other)", "turned(point, quarters)", "size(point)",
               "total(points)"],
    "symbols": ["number_of(bits)", "bits_of(number, many)", "check_symbols(symbols)", "levels(bits)", "square(bits)",
                "points_of(symbols, row)", "nearest(symbols, point)", "row_near(symbols, points)", "closeness(symbols)"],
    "lines": ["check_line(line)", "reach(line)", "sent(line, points)", "joined(one, other)",
              "turned_line(line, quarters)", "spoiled(samples, noise)", "lost(samples, places)", "cost(samples, points)"],
    "machines": ["is_machine(thing)", "check_machine(machine)", "shift_machine(polys)", "choices_of(machine, row)",
                 "row_of(machine, choices)", "run(machine, state, choices)", "ways_back(machine, steps)",
                 "tail_steps(machine, unit)"],
    "composing": ["behind(first, second)", "reached(machine)", "reduced(machine)", "unlike(first, second)",
                  "loses(machine)", "delay(machine)"],
    "senders": ["check_sender(sender)", "sizes(sender)", "block(sender, state, label)", "blocks_of(sender)",
                "tail(sender)", "ways_home(sender, blocks)", "labels_in(sender, row)", "tied(sender, row)",
                "points_for(sender, row)", "walked(sender, labels)"],
    "trellises": ["is_trellis(thing)", "check_trellis(trellis)", "cost_of(trellis, labels)", "best_path(trellis)",
                  "apart(trellis, labels)", "two_best(trellis)"],
    "potentials": ["potentials_of(trellis)", "are_right(trellis, table)", "least_end(trellis, table)",
                   "paper_of(trellis)", "check_paper(trellis, paper)"],
    "smears": ["first_room(line)", "step(sender, line, room, label)", "silence(sender, line, room)",
               "room_rows(sender, line, blocks)", "run_size(sender, line, blocks)",
               "trellis_of(sender, line, blocks, samples)"],
    "runs": ["run_samples(sender, line, row)", "hear_run(sender, line, blocks, samples)",
             "check_run(sender, line, blocks, samples, paper)", "blocks_in(sender, row)"],
    "distances": ["pair_trellis(sender, line, blocks)", "nearest_pair(sender, line, blocks)",
                  "distance(sender, line, blocks)", "distance_paper(sender, line, blocks)",
                  "check_distance(sender, line, blocks, paper)", "halfway(sender, line, row, other)"],
    "freedoms": ["free_distance(sender, line)", "free_paper(sender, line)", "check_free(sender, line, paper)",
                 "ring(sender, line)", "most_parted(sender, line, cost)"],
    "fields": ["is_primitive(m, poly)"],
    "polynomials": ["trimmed(row)", "plus(f, g)", "times(field, f, g)", "divided(field, f, g)", "value(field, f, at)",
                    "slope(f)", "roots(field, f)", "through(field, pairs)"],
    "words": ["check_words(code)", "encode(code, symbols)", "is_word(code, row)", "signs(code, row)",
              "mend(code, heard, gaps)", "is_mended(code, heard, gaps, word)"],
    "mixing": ["check_mix(mix, words, n)", "order_of(mix, words, n)", "most_hit(mix, words, n, first, last)",
               "worst(mix, words, n, length)", "check_delays(delays)", "delayed(delays, row)",
               "undelayed(delays, row)"],
    "checks": ["check_check(check)", "check_bits(check, row)", "is_right(check, row)", "span(check)",
               "fewest_unseen(check, length)"],
    "scramblers": ["check_scrambler(scrambler)", "check_feed(feed)", "key_of(scrambler, length)",
                   "scrambled(scrambler, row)", "period(scrambler)", "fed(feed, row)", "unfed(feed, row)"],
    "slips": ["slipped(samples, copies)", "slip_trellis(sender, line, blocks, most, samples, row=None)",
              "hear_slipped(sender, line, blocks, most, samples)",
              "check_slipped(sender, line, blocks, most, samples, paper)"],
    "openings": ["check_opening(opening)", "turned(point, turn)", "shape(opening, line, turn)",
                 "arrival(opening, lines, slack, guess)", "cost(opening, lines, guess, samples)",
                 "find(opening, lines, slack, samples)", "separation(opening, lines, slack)"],
    "frames": ["message_bits(link, message)", "words_for(link, message)", "rows_for(link, message)",
               "frame_points(link, message)", "message_in(link, row)",
               "frame_samples(link, message, *, place, turn, number)"],
    "hearing": ["hear(link, samples)"],
    "audits": ["audit(link, samples, paper)"],
    "budgets": ["run_budget(link)", "opening_budget(link)", "spare_runs(link)", "promise(link)"],
    "repeats": ["check_parts(parts)", "repeat_trellis(parts, blocks, heard)", "hear_repeats(parts, blocks, heard)",
                "check_repeats(parts, blocks, heard, paper)", "repeat_distance(parts, blocks)"],
    "ends": ["told_ticks(messages, wait, delay, k)"],
    "notation": ["read_link(text)", "write_link(link)"],
    "console": ["run_script(text)"],
    "weighing": ["exact_paper(trellis)", "check_exact(trellis, paper)", "weight(code, most, heard, sure, word)",
                 "is_weighed(code, most, heard, sure, word)", "weigh(code, most, heard, sure)",
                 "hear_weighed(link, samples)", "audit_weighed(link, samples, paper)", "is_spread(link)",
                 "frame_budget(link)"],
    "learning": ["check_known(points, taps, bound)", "learn(points, taps, bound, samples)",
                 "line_distance(points, taps, bound)"],
    "learnt": ["check_learnt(points, taps, bound, samples, paper)"],
    "lists": ["best_paths(trellis, many)", "paths_within(trellis, cost, most)", "apart_from(trellis, paths)",
              "list_paper(trellis, cost, most)", "check_list(trellis, cost, paper)",
              "hear_list(sender, line, blocks, samples, *, cost, most)",
              "check_heard(sender, line, blocks, samples, *, cost, paper)"],
    "rings": ["ring_samples(sender, line, state, row)", "ring_trellis(sender, line, blocks, samples, state)",
              "hear_ring(sender, line, blocks, samples)", "check_ring(sender, line, blocks, samples, paper)"],
    "prices": ["prices(sender, line, blocks, samples)", "prices_paper(sender, line, blocks, samples)",
               "check_prices(sender, line, blocks, samples, paper)", "bit_distance(sender, line, blocks, place)"],
}
CLASSES = {
    "errors": ["HeardError", "ShapeError", "ReadError"], "pairs": ["Pairs"], "fields": ["Field"], "links": ["Link"],
    "ends": ["End"],
}
METHODS = {
    ("pairs", "Pairs"): ["__init__(self, parts)", "begin(self, state)", "is_together(self, room)",
                         "step(self, room, one, other)", "silence(self, room)", "trellis(self, blocks)"],
    ("fields", "Field"): ["__init__(self, m, poly)", "times(self, a, b)", "inverse(self, a)", "power(self, e)",
                          "place(self, a)"],
    ("links", "Link"): ["__init__(self, *, opening, lines, slack, sender, code, words, mix, check, scrambler, runs)",
                        "told_bits(self)", "sent_bits(self)", "most_bytes(self)", "blocks(self)", "run_points(self)",
                        "run_start(self, run)", "frame_points(self)", "many_samples(self)"],
    ("ends", "End"): ["__init__(self, window, numbers, wait)", "give(self, message)", "heard(self, frame)",
                      "tick(self, now)", "taken(self)", "is_done(self)"],
}

EXAMPLES = {
    "symbols": """
>>> from heardtrue.symbols import closeness, levels, points_of, row_near, square
>>> [levels(2), closeness(levels(2)), closeness(square(2))]
[('symbols', 2, ((-3, 0), (-1, 0), (3, 0), (1, 0))), 4, 4]
>>> [points_of(square(2), [0, 1, 1, 1]), row_near(square(2), [(0, 9), (5, -2)])]
[[(-1, 1), (1, 1)], [0, 1, 1, 0]]
""",
    "lines": """
>>> from heardtrue.lines import cost, joined, sent
>>> line = ("line", ((2, 0), (0, 1)))
>>> [sent(line, [(1, 1), (-1, 0)]), joined(line, ("line", ((1, 0), (0, -1))))]
[[(2, 2), (-3, 1), (0, -1)], ('line', ((2, 0), (0, -1), (1, 0)))]
>>> cost([(2, 2), None, (0, 1)], sent(line, [(1, 1), (-1, 0)]))
4
""",
    "machines": """
>>> from heardtrue.machines import shift_machine, run, tail_steps, ways_back
>>> machine = shift_machine((7, 5))
>>> machine[3]
((0, 2), (0, 2), (1, 3), (1, 3))
>>> run(machine, 0, [1, 0, 1])
(2, [1, 1, 1, 0, 0, 0])
>>> [ways_back(machine, 1), ways_back(machine, 2)[3], tail_steps(machine, 1), tail_steps(machine, 3)]
[{0: [0], 1: [0]}, [0, 0], 2, 3]
""",
    "composing": """
>>> from heardtrue.composing import behind, delay, loses, reduced, unlike
>>> from heardtrue.machines import shift_machine
>>> [loses(shift_machine((7, 5))), delay(shift_machine((7, 5))), loses(shift_machine((0, 0)))]
[None, 0, ('merge', [0], [1])]
>>> late = ("machine", 1, 1, ((0, 1), (0, 1)), (((0,), (0,)), ((1,), (1,))))
>>> [delay(late), len(reduced(behind(shift_machine((1,)), shift_machine((3, 1))))[3])]
[1, 2]
>>> loses(("machine", 1, 1, ((1, 2), (1, 1), (2, 2)), (((0,), (0,)), ((0,), (1,)), ((0,), (1,)))))
('ring', [0], [1], [0], [0])
>>> unlike(shift_machine((7, 5)), shift_machine((7, 7)))
[1, 0]
""",
    "senders": """
>>> from heardtrue.machines import shift_machine
>>> from heardtrue.senders import points_for, sizes, tail, tied
>>> from heardtrue.symbols import levels
>>> sender = ("sender", shift_machine((7, 5)), ((1, 1), (0, 1)), levels(1))
>>> [sizes(sender), tail(sender), tied(sender, [1, 1])]
[(2, 3), (1, {0: [0], 1: [0], 2: [0], 3: [0]}), [1, 1, 0, 0]]
>>> points_for(sender, [1, 1])
[(1, 0), (1, 0), (1, 0)]
""",
    "trellises": """
>>> from heardtrue.trellises import apart, best_path, cost_of, two_best
>>> trellis = ("trellis", (1, 2, 1), [[(0, 0, 0, 3), (0, 1, 1, 1)], [(0, 0, 0, 0), (1, 0, 0, 2), (1, 0, 1, 4)]], (0,))
>>> [best_path(trellis), two_best(trellis), cost_of(trellis, [1, 1]), cost_of(trellis, [0, 1])]
[([0, 0], 3), [([0, 0], 3), ([1, 0], 3)], 5, None]
>>> apart(trellis, [0, 0])[1]
(1, 3, 2)
>>> apart(trellis, [0, 0])[2]
[[(0, 2, 0, 3), (0, 1, 1, 1)], [(0, 0, 0, 0), (1, 0, 0, 2), (1, 0, 1, 4), (2, 1, 0, 0)]]
""",
    "potentials": """
>>> from heardtrue.potentials import check_paper, paper_of
>>> trellis = ("trellis", (1, 1), [[(0, 0, 0, 5), (0, 0, 3, 2)]], (0,))
>>> paper_of(trellis)
('one', [3], [[0], [5, 2]])
>>> [check_paper(trellis, paper_of(trellis)), check_paper(trellis, ("one", [3], [[0], [4, 0]])), check_paper(trellis, ("one", [0], [[0], [2, 5]]))]
[('one', [3], 2, 3), ('one', [3], 2, 2), None]
""",
    "runs": """
>>> from heardtrue.machines import shift_machine
>>> from heardtrue.runs import hear_run, run_samples
>>> from heardtrue.symbols import levels
>>> sender = ("sender", shift_machine((7, 5)), ((1, 1),), levels(1))
>>> line = ("line", ((1, 0), (1, 0)))
>>> clear = run_samples(sender, line, [1, 0])
>>> clear
[(1, 0), (2, 0), (2, 0), (0, 0), (0, 0), (2, 0), (0, 0), (-2, 0), (-1, 0)]
>>> hear_run(sender, line, 2, clear)[0]
('row', [1, 0], 0, 32)
>>> hear_run(sender, line, 2, [None] * 9)[0]
('tie', [0, 0], [0, 1], 0)
""",
    "distances": """
>>> from heardtrue.distances import check_distance, distance, distance_paper, halfway, nearest_pair
>>> from heardtrue.machines import shift_machine
>>> from heardtrue.symbols import levels
>>> sender, line = ("sender", shift_machine((1,)), ((1,),), levels(1)), ("line", ((1, 0), (1, 0)))
>>> [nearest_pair(sender, line, 1), nearest_pair(sender, line, 2), distance(sender, line, 0)]
[(8, [0], [1]), (8, [0, 0], [0, 1]), None]
>>> check_distance(sender, line, 1, distance_paper(sender, line, 1))
(8, [0], [1])
>>> halfway(sender, line, [0, 1], [1, 1])
[(0, 0), (1, 0), (1, 0)]
""",
    "freedoms": """
>>> from heardtrue.freedoms import check_free, free_distance, free_paper, most_parted, ring
>>> from heardtrue.machines import shift_machine
>>> from heardtrue.symbols import levels
>>> one = ("line", ((1, 0),))
>>> sender = ("sender", shift_machine((7, 5)), ((1, 1),), levels(1))
>>> [free_distance(sender, one), ring(sender, one), most_parted(sender, one, 4), most_parted(sender, one, 8)]
[20, None, 0, 1]
>>> check_free(sender, one, free_paper(sender, one))
20
>>> ring(("sender", shift_machine((3, 3)), ((1, 1),), levels(1)), one)
('ring', [0], [1], [0], [1])
""",
    "fields": """
>>> from heardtrue.fields import Field
>>> field = Field(3, 11)
>>> [field.times(6, 7), field.inverse(6), field.power(3), field.place(6), field.power(-1)]
[4, 3, 3, 4, 5]
""",
    "polynomials": """
>>> from heardtrue.fields import Field
>>> from heardtrue.polynomials import divided, roots, times, value
>>> field = Field(3, 11)
>>> times(field, [2, 1], [4, 1])
[3, 6, 1]
>>> [roots(field, [3, 6, 1]), value(field, [3, 6, 1], 0), divided(field, [3, 6, 1], [2, 1])]
[[2, 4], 3, ([4, 1], [])]
""",
    "words": """
>>> from heardtrue.words import encode, mend
>>> code = ("words", 3, 11, 7, 3)
>>> encode(code, [1, 0, 0])
[1, 0, 0, 6, 1, 6, 7]
>>> mend(code, [1, 0, 5, 6, 1, 6, 3], [])
([1, 0, 0, 6, 1, 6, 7], [2, 6], [])
>>> mend(code, [1, 0, 5, 6, 1, 6, 3], [0, 2])
([1, 0, 0, 6, 1, 6, 7], [6], [0, 2])
>>> mend(code, [1, 0, 5, 6, 1, 6, 3], [0]) is None
True
""",
    "mixing": """
>>> from heardtrue.mixing import delayed, most_hit, order_of, undelayed
>>> order_of(("mix", 2, 3), 2, 3)
[(0, 0), (1, 0), (0, 1), (1, 1), (0, 2), (1, 2)]
>>> [most_hit(("mix", 2, 3), 2, 3, 1, 4), most_hit(("mix", 3, 2), 2, 3, 0, 3)]
[[1, 2], [2, 1]]
>>> [delayed(("delays", 2, 1), [5, 6, 7, 8]), undelayed(("delays", 2, 1), [5, 0, 7, 6, 9, 8])]
[[5, 0, 7, 6, 0, 8], [5, 6, 7, 8]]
""",
    "checks": """
>>> from heardtrue.checks import check_bits, fewest_unseen, is_right, span
>>> check = ("check", 3, 11)
>>> [check_bits(check, [1, 0, 1, 1]), is_right(check, [1, 0, 1, 1, 0, 0, 0]), span(check)]
[[0, 0, 0], True, 7]
>>> [fewest_unseen(check, 3), fewest_unseen(check, 5), fewest_unseen(check, 8)]
[None, (3, [0, 1, 0, 1, 1]), (2, [1, 0, 0, 0, 0, 0, 0, 1])]
""",
    "scramblers": """
>>> from heardtrue.scramblers import fed, key_of, period, scrambled, unfed
>>> [key_of(("scramble", 3, 11, 4), 8), period(("scramble", 3, 11, 4)), scrambled(("scramble", 3, 11, 4), [1, 1, 1, 1])]
[[1, 0, 0, 1, 1, 1, 0, 1], 7, [0, 1, 1, 0]]
>>> [fed(("feed", 2, 7), [1, 0, 0, 0]), unfed(("feed", 2, 7), [1, 1, 0, 1])]
[[1, 1, 0, 1], [1, 0, 0, 0]]
""",
    "slips": """
>>> from heardtrue.slips import slipped
>>> slipped([(1, 0), (2, 0), (3, 0)], [1, 0, 2])
[(1, 0), (3, 0), (3, 0)]
""",
    "openings": """
>>> from heardtrue.openings import find, separation, shape
>>> opening = ((2, 0), (0, 2), (2, 0))
>>> lines = [("line", ((1, 0),)), ("line", ((1, 0), (1, 0)))]
>>> shape(opening, lines[1], 1)
[(0, 2), (-2, 2), (-2, 2)]
>>> find(opening, lines, 2, [(0, 0), (0, 1), (-2, 2), (-2, 2), (0, 2)])
(1, 1, 1)
""",
    "repeats": r'''
>>> from heardtrue.machines import shift_machine
>>> from heardtrue.repeats import hear_repeats, repeat_distance
>>> from heardtrue.symbols import levels
>>> machine, one = shift_machine((3, 1)), ("line", ((1, 0),))
>>> parts = [(("sender", machine, ((1, 0),), levels(1)), one), (("sender", machine, ((0, 1),), levels(1)), one)]
>>> [repeat_distance(parts[:1], 1), repeat_distance(parts[1:], 1), repeat_distance(parts, 1)]
[8, 4, 12]
>>> hear_repeats(parts, 1, [[(1, 0), None], [None, (1, 0)]])[0]
('row', [1], 0, 8)
''',
    "ends": r'''
>>> from heardtrue.ends import End, told_ticks
>>> one = End(2, 4, 5)
>>> two = End(2, 4, 5)
>>> one.give([7])
>>> one.give([8, 9])
>>> [one.tick(0), one.tick(1), one.tick(2)]
[[[0, 0, 7]], [[0, 1, 8, 9]], []]
>>> two.heard([0, 1, 8, 9])
>>> [two.taken(), two.tick(2)]
[[], [[1, 0, 2]]]
>>> two.heard([0, 0, 7])
>>> [two.taken(), two.tick(3), told_ticks(2, 5, 1, 2)]
[[[7], [8, 9]], [[1, 2, 0]], 52]
''',
    "console": r'''
>>> from heardtrue.console import run_script
>>> from heardtrue.notation import read_link, write_link
>>> text = """opening 4,0 0,4 4,0
... line 1,0
... slack 1
... machine 1 1
... state 0:0 0:1
... pattern 1
... symbols -1,0 1,0
... code 4 19 15 5
... words 1
... mix 1 15
... check 4 19
... scramble 4 19 1
... runs 2
... """
>>> write_link(read_link(text)) == text
True
>>> run_script(text + "distance 0 2\nring 0\nsend 1 0 0 a5\nlose 0\nshow 0 3\nhear\naudit\nsend 2 0 0 -\n")
['distance 4', 'ring no', 'samples 74', 'show lost 4,0 0,4', 'heard a5', 'taken a5', 'error place']
''',
    "weighing": r'''
>>> from heardtrue.weighing import is_weighed, weigh, weight
>>> code = ("words", 2, 7, 3, 1)
>>> [weigh(code, 4, [1, 1, 2], [0, 1, 4]), weight(code, 4, [1, 1, 2], [0, 1, 4], [2, 2, 2])]
[[2, 2, 2], 39]
>>> [is_weighed(code, 4, [1, 1, 2], [0, 1, 4], [2, 2, 2]), weight(code, 4, [1, 1, 2], [0, 1, 4], [1, 1, 1])]
[True, 57]
''',
    "learnt": r'''
>>> from heardtrue.learning import learn, line_distance
>>> points = ((1, 0), (1, 0), (-1, 0))
>>> line_distance(points, 1, 2)
(3, ((-1, 0),))
>>> learn(points, 2, 1, [(1, 0), (1, 1), (-1, 1), (0, -1)])[0]
('line', ((1, 0), (0, 1)), 0)
''',
    "lists": r'''
>>> from heardtrue.lists import apart_from, best_paths, check_list, list_paper, paths_within
>>> trellis = ("trellis", (1, 2, 1), [[(0, 0, 0, 3), (0, 1, 1, 1)], [(0, 0, 0, 0), (1, 0, 0, 2), (1, 0, 1, 4)]], (0,))
>>> [best_paths(trellis, 2), paths_within(trellis, 3, 1)]
[[([0, 0], 3), ([1, 0], 3)], None]
>>> apart_from(trellis, [[0, 0], [1, 0]])[1:3]
((1, 4, 3), [[(0, 2, 0, 3), (0, 3, 1, 1)], [(0, 0, 0, 0), (1, 0, 0, 2), (1, 0, 1, 4), (2, 1, 0, 0), (3, 2, 0, 2), (3, 0, 1, 4)]])
>>> check_list(trellis, 4, list_paper(trellis, 4, 9))
[([0, 0], 3), ([1, 0], 3)]
''',
    "rings": r'''
>>> from heardtrue.machines import shift_machine
>>> from heardtrue.rings import hear_ring, ring_samples
>>> from heardtrue.symbols import levels
>>> sender, line = ("sender", shift_machine((3, 1)), ((1, 1),), levels(1)), ("line", ((1, 0),))
>>> ring_samples(sender, line, 1, [0, 1])
[(1, 0), (1, 0), (1, 0), (-1, 0)]
>>> hear_ring(sender, line, 2, ring_samples(sender, line, 1, [0, 1]))[0]
('row', 1, [0, 1], 0, 8)
''',
    "prices": r'''
>>> from heardtrue.machines import shift_machine
>>> from heardtrue.prices import bit_distance, prices
>>> from heardtrue.symbols import levels
>>> sender = ("sender", shift_machine((1,)), ((1,),), levels(1))
>>> line = ("line", ((1, 0), (1, 0)))
>>> prices(sender, line, 2, [(1, 0), (0, 0), None])
[(4, 0), (0, 4)]
>>> [bit_distance(sender, line, 2, 0), bit_distance(sender, line, 2, 1)]
[8, 8]
''',
}


def module(name):
    return importlib.import_module(f"heardtrue.{name}")


class Names(unittest.TestCase):
    def test_functions_and_their_arguments(self):
        for name, calls in NAMES.items():
            for call in calls:
                function = getattr(module(name), call.split("(")[0])
                self.assertEqual(function.__name__ + str(inspect.signature(function)), call)

    def test_all_stand_in_their_own_file(self):
        for name, calls in list(NAMES.items()) + list(CLASSES.items()):
            for call in calls:
                self.assertEqual(getattr(module(name), call.split("(")[0]).__module__, f"heardtrue.{name}")

    def test_methods_stand_in_their_own_class(self):
        for (name, owner), calls in METHODS.items():
            held = vars(getattr(module(name), owner))
            for call in calls:
                method = held[call.split("(")[0]]
                self.assertEqual(method.__name__ + str(inspect.signature(method)), call)


class Examples(unittest.TestCase):
    def holds(self, name, text):
        example = doctest.DocTestParser().get_doctest(text, {}, name, None, 0)
        told = []
        runner = doctest.DocTestRunner()
        runner.run(example, out=told.append)
        self.assertGreater(runner.tries, 0)
        self.assertEqual("".join(told), "")

    def test_each_example_as_it_is_written(self):
        for name, text in EXAMPLES.items():
            self.holds(name, text)

    def test_those_of_the_readme(self):
        fenced = README.read_text().split("```\n")[1::2]
        self.holds("README", "\n".join(part for part in fenced if part.startswith(">>>")))


if __name__ == "__main__":
    unittest.main()
