"""Points 15.1 and 15.2, and the numbers of 15.4 and 15.5: links."""

import unittest
from itertools import combinations

from heardtrue.errors import ShapeError
from heardtrue.links import Link
from heardtrue.machines import shift_machine
from heardtrue.senders import tail
from heardtrue.symbols import levels
from somelinks import ALL, EMPTY, GREAT, PLAIN, WIDE, link_of
from support import block_bits, line_of, stands_alone

ORDER = ["opening", "lines", "slack", "sender", "code", "words", "mix", "check", "scrambler", "runs"]
BAD_MACHINE = ("sender", ("machine", 3, 1, ((0, 0),), (((0,), (1,)),)), ((1,),), levels(1))
BAD_SYMBOLS = ("sender", PLAIN["sender"][1], ((1,),), ("symbols", 5, ((-1, 0), (1, 0))))
BAD_TAIL = ("sender", ("machine", 1, 1, ((1, 1), (1, 1)), (((0,), (1,)),) * 2), ((1,),), levels(1))
# For each field what is wrong, and the name that is told.
FAULTS = {
    "opening": [(wrong, "opening") for wrong in (
        (), ((0, 0),), ((1, 0),) * 65, [(0, 0)], [], None, ((1, 0), [1, 0]), ((1001, 0),), ((0, -1001),), ((1, 0), (0, 1001)),
        ((True, 0),), 7, "opening", [[1, 0]])],
    "lines": [(wrong, "lines") for wrong in ((), [], (line_of((1, 0)),) * 5, None, 3, "lines", {})] + [
        ((line_of(),), "taps"), ([line_of((1, 0)), line_of(*[(1, 0)] * 5)], "taps"), ((line_of((51, 0)),), "tap"),
        ((line_of((1, 0)), line_of((0, 0))), "nothing"), ((line_of((0, 0)), line_of((51, 0))), "nothing"),
        ((line_of((51, 0)), line_of()), "tap")],
    "slack": [(wrong, "slack") for wrong in (-1, 51, True, None, 1.0, "1")],
    "sender": [
        (BAD_MACHINE, "machine"), (BAD_SYMBOLS, "bits"), (PLAIN["sender"][:2] + (((1, 1),),) + PLAIN["sender"][3:], "pattern"),
        (PLAIN["sender"][:2] + (((0,),),) + PLAIN["sender"][3:], "ones"), (BAD_TAIL, "tail")],
    "code": [(wrong, "words") for wrong in (
        None, (), ("words", 4, 19, 15, 15), ("words", 4, 19, 16, 5), ("words", 4, 18, 15, 5), ["words", 4, 19, 15, 5], 5)],
    "words": [(wrong, "words") for wrong in (0, 9, -1, True, None, 1.0)],
    "mix": [(wrong, "mix") for wrong in (None, ("mix", 1, 14), ("mix", 2, 15), ("mix", 0, 15), ["mix", 1, 15], ("mix", -1, -15))],
    "check": [(wrong, "check") for wrong in (None, ("check", 4, 18), ("check", 17, 2 ** 17 + 1), ["check", 4, 19], ("check", 0, 1))],
    "scrambler": [(wrong, "scramble") for wrong in (
        None, ("scramble", 4, 19, 0), ("scramble", 4, 19, 16), ("scramble", 4, 20, 1), ("feed", 4, 19))],
    "runs": [(wrong, "runs") for wrong in (0, 9, -1, True, None, 1.0)],
}


def name_of(fields):
    try:
        Link(**fields)
    except ShapeError as error:
        return error.name
    return None


class Right(unittest.TestCase):
    def test_all_fields_are_kept(self):
        for fields in ALL:
            link = link_of(fields)
            for name, field in fields.items():
                self.assertEqual(getattr(link, name), field)

    def test_opening_and_lines_as_lists(self):
        link = link_of(PLAIN, opening=[(4, 0), (0, 4), (4, 0)], lines=[line_of((1, 0))])
        self.assertEqual((link.opening, link.lines), (PLAIN["opening"], PLAIN["lines"]))
        for kept in (link.opening, link.lines):
            self.assertIsInstance(kept, tuple)

    def test_lists_that_were_handed_in_are_not_kept(self):
        opening, lines = [(4, 0), (0, 4)], [line_of((1, 0))]
        link = link_of(PLAIN, opening=opening, lines=lines)
        opening.append((7, 7))
        lines.append(None)
        self.assertEqual((link.opening, link.lines), (((4, 0), (0, 4)), (line_of((1, 0)),)))

    def test_fields_come_by_keyword(self):
        with self.assertRaises(TypeError):
            Link(*[PLAIN[name] for name in ORDER])

    def test_both_ends_of_each_range(self):
        for changed in ({"opening": ((1, 0),)}, {"opening": ((1000, -1000),) * 64}, {"lines": (line_of((50, -50)),) * 4},
                        {"slack": 0}, {"slack": 50}, {"runs": 1}, {"runs": 8}, {"check": ("check", 1, 3)},
                        {"check": ("check", 12, 4179)}, {"scrambler": ("scramble", 1, 3, 1)},
                        {"scrambler": ("scramble", 16, 69643, 65535)}, {"words": 8, "mix": ("mix", 15, 8)},
                        {"mix": ("mix", 15, 1)}, {"mix": ("mix", 3, 5)}):
            self.assertIsNone(name_of(dict(PLAIN, **changed)), changed)

    def test_size(self):
        # The least code that tells the number of the bytes and the check.
        self.assertEqual(link_of(EMPTY).most_bytes(), 0)
        self.assertEqual(name_of(dict(EMPTY, check=("check", 5, 37))), "size")
        self.assertEqual(name_of(dict(PLAIN, code=("words", 4, 19, 15, 1))), "size")
        self.assertEqual(name_of(dict(PLAIN, check=("check", 16, 69643))), "size")
        self.assertEqual(link_of(GREAT, check=("check", 8, 285)).most_bytes(), 254)
        code = ("words", 8, 285, 255, 129)
        most = {"code": code, "words": 2, "mix": ("mix", 2, 255)}
        self.assertEqual(link_of(GREAT, check=("check", 16, 69643), **most).most_bytes(), 255)
        self.assertEqual(name_of(dict(GREAT, check=("check", 9, 529), **most)), None)
        self.assertEqual(name_of(dict(GREAT, check=("check", 8, 285), **most)), "size")
        self.assertEqual(name_of(dict(GREAT, code=("words", 8, 285, 255, 200))), "size")


class Wrong(unittest.TestCase):
    def test_one_fault(self):
        for field, faults in FAULTS.items():
            for wrong, name in faults:
                self.assertEqual(name_of(dict(PLAIN, **{field: wrong})), name, (field, wrong))

    def test_of_two_faults_the_first_one(self):
        for field, other in combinations(ORDER, 2):
            for wrong, name in FAULTS[field]:
                for beside, _ in FAULTS[other]:
                    self.assertEqual(name_of(dict(PLAIN, **{field: wrong, other: beside})), name, (field, wrong, other))

    def test_of_all_faults_the_first_one(self):
        wrong = {field: faults[0][0] for field, faults in FAULTS.items()}
        for field in ORDER:
            self.assertEqual(name_of(dict(PLAIN, **wrong)), FAULTS[field][0][1])
            del wrong[field]
        self.assertIsNone(name_of(dict(PLAIN, **wrong)))

    def test_the_size_comes_last(self):
        for field, faults in FAULTS.items():
            wrong, name = faults[-1]
            self.assertEqual(name_of(dict(PLAIN, **{"code": ("words", 4, 19, 15, 1), field: wrong})), name)

    def test_the_mix_is_for_the_words(self):
        self.assertEqual(name_of(dict(PLAIN, words=2)), "mix")
        self.assertIsNone(name_of(dict(PLAIN, words=2, mix=("mix", 6, 5))))
        self.assertEqual(name_of(dict(PLAIN, code=("words", 4, 19, 14, 5))), "mix")


class Numbers(unittest.TestCase):
    def test_by_hand(self):
        link = link_of(PLAIN)
        self.assertEqual([link.told_bits(), link.sent_bits(), link.most_bytes()], [20, 60, 1])
        self.assertEqual([link.blocks(), link.run_points(), link.frame_points(), link.many_samples()], [30, 30, 73, 74])
        self.assertEqual([link.run_start(0), link.run_start(1)], [7, 40])
        link = link_of(WIDE)
        self.assertEqual([link.told_bits(), link.sent_bits(), link.most_bytes()], [45, 63, 4])
        # A block has 2 bits and 3 points, and the tail one block: 8 blocks have room for a quarter of 63 bits.
        self.assertEqual([link.blocks(), link.run_points()], [8, 27])
        self.assertEqual([link.run_start(run) for run in range(4)], [11, 41, 71, 101])
        self.assertEqual([link.frame_points(), link.many_samples()], [131, 135])

    def test_by_their_words(self):
        for fields in ALL:
            for runs in range(1, 9):
                link = link_of(fields, runs=runs)
                _, m, _, n, k = fields["code"]
                told, sent = fields["words"] * k * m, fields["words"] * n * m
                self.assertEqual((link.told_bits(), link.sent_bits()), (told, sent))
                self.assertEqual(link.most_bytes(), (told - fields["check"][1]) // 8 - 1)
                bits, blocks = block_bits(fields["sender"]), link.blocks()
                self.assertTrue(runs * (blocks - 1) * bits < sent <= runs * blocks * bits)
                ones = sum(map(sum, fields["sender"][2])) // fields["sender"][3][1]
                points = (blocks + tail(fields["sender"])[0]) * ones
                self.assertEqual(link.run_points(), points)
                start = len(fields["opening"]) + fields["slack"] + 3
                self.assertEqual([link.run_start(run) for run in range(runs)], [start + run * (points + 3) for run in range(runs)])
                self.assertEqual(link.frame_points(), start + runs * (points + 3))
                self.assertEqual(link.many_samples(), link.frame_points() + fields["slack"])

    def test_a_sender_with_wide_blocks(self):
        sender = ("sender", shift_machine((7, 5)), ((1, 1),) * 4, levels(2))
        link = link_of(PLAIN, sender=sender, runs=7)
        # 60 bits in 7 runs of 4 bits a block: 3 blocks each; the last two runs are of zeros alone.
        self.assertEqual((link.blocks(), link.run_points()), (3, 16))


class Kept(unittest.TestCase):
    def test_arguments_stay(self):
        def made(fields):
            link = Link(**fields)
            return [getattr(link, name) for name in ORDER]

        for fields in ALL:
            stands_alone(self, made, fields)
            stands_alone(self, made, dict(fields, opening=list(fields["opening"]), lines=list(fields["lines"])))


if __name__ == "__main__":
    unittest.main()
