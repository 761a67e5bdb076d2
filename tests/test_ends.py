"""Points 19.1 to 19.8: the two ends."""

import copy
import random
import unittest

from heardtrue.ends import End, told_ticks
from support import changeable, fault, spoil

ANY = [None, True, False, "", "3", 1.0, [], [3], (3,), {}]


class SlowEnd:
    """An end by the words of the document: what it knows is looked up anew each time."""

    def __init__(self, window, numbers, wait):
        self.window, self.numbers, self.wait = window, numbers, wait
        self.messages, self.known, self.last = [], set(), {}
        self.come, self.owes, self.out = {}, False, 0

    def next_place(self):
        return min(place for place in range(len(self.come) + 1) if place not in self.come)

    def base(self):
        return min(place for place in range(len(self.messages) + 1) if place not in self.known)

    def give(self, message):
        self.messages.append(list(message))

    def heard(self, frame):
        if len(frame) >= 2 and frame[0] == 0:
            at = self.next_place()
            places = [p for p in range(at - self.window, at + self.window) if p % self.numbers == frame[1] and p >= 0]
            assert len(places) < 2
            if places:
                self.owes = True
                if places[0] >= at:
                    self.come.setdefault(places[0], frame[2:])
        if len(frame) == 3 and frame[0] == 1:
            base = self.base()
            places = [p for p in range(base, base + self.window + 1) if p % self.numbers == frame[1]]
            assert len(places) < 2
            if places and places[0] <= len(self.last):
                told = set(range(places[0]))
                told |= {places[0] + i for i in range(1, self.window) if frame[2] // 2 ** i % 2 == 1}
                self.known |= {place for place in told if place in self.last}

    def tick(self, now):
        frames = []
        if self.owes:
            at = self.next_place()
            frames.append([1, at % self.numbers, sum(2 ** i for i in range(1, self.window) if at + i in self.come)])
            self.owes = False
        base = self.base()
        for place in range(base, base + self.window):
            due = place not in self.last or now - self.last[place] >= self.wait
            if place < len(self.messages) and place not in self.known and due:
                frames.append([0, place % self.numbers] + self.messages[place])
                self.last[place] = now
                break
        return frames

    def taken(self):
        at = self.next_place()
        told = [self.come[place] for place in range(self.out, at)]
        self.out = at
        return told

    def is_done(self):
        return len(self.known) == len(self.messages)


def sizes(source):
    """A window, numbers and a wait, often the least or the greatest ones."""
    window = source.randint(1, 8)
    numbers = source.choice((2 * window, 2 * window, 2 * window + 1, 128, source.randint(2 * window, 128)))
    return window, numbers, source.choice((1, 2, 3, source.randint(1, 20), 1000))


def any_frame(source, numbers):
    """A frame of any sort, with small numbers mostly."""
    sort = source.choice((0, 0, 0, 1, 1, 1, source.randrange(256)))
    frame = [sort, source.choice((source.randrange(numbers), source.randrange(numbers), source.randrange(256)))]
    many = 1 if sort == 1 and source.random() < 0.9 else source.randrange(4)
    return (frame + [source.randrange(256) for _ in range(many)])[:source.choice((9, 9, 9, 9, 1, 0))]


class Made(unittest.TestCase):
    def test_ranges(self):
        for window in range(1, 9):
            for numbers in (2 * window, 2 * window + 1, 127, 128):
                for wait in (1, 2, 999, 1000):
                    self.assertIsNone(fault(End, window, numbers, wait))
            for numbers in [2 * window - 1, 0, -1, 129, 1000] + ANY:
                self.assertEqual(fault(End, window, numbers, 5), "numbers")
            for wait in [0, -1, 1001] + ANY:
                self.assertEqual(fault(End, window, 16, wait), "wait")
        for window in [0, -1, 9, 100] + ANY:
            self.assertEqual(fault(End, window, 128, 5), "window")

    def test_the_first_of_several(self):
        for window in [0, 9] + ANY:
            for numbers in [0, 129] + ANY:
                for wait in [0, 1001] + ANY:
                    self.assertEqual(fault(End, window, numbers, wait), "window")
                    self.assertEqual(fault(End, 2, numbers, wait), "numbers")
                    self.assertEqual(fault(End, 2, 4, wait), "wait")

    def test_in_the_beginning(self):
        end = End(1, 2, 1)
        self.assertTrue(end.is_done())
        self.assertEqual([end.tick(0), end.tick(1), end.taken(), end.taken()], [[], [], [], []])


class Sending(unittest.TestCase):
    def test_one_message_in_a_tick_the_least_that_is_due(self):
        end = End(3, 6, 4)
        for at in range(5):
            self.assertIsNone(end.give([at] * at))
        told = [end.tick(now) for now in range(10)]
        first = [[[0, 0]], [[0, 1, 1]], [[0, 2, 2, 2]], []]
        self.assertEqual(told, first + first + first[:2])

    def test_the_window_moves_as_messages_are_answered(self):
        end = End(2, 4, 100)
        for at in range(5):
            end.give([at])
        self.assertEqual([end.tick(now) for now in range(3)], [[[0, 0, 0]], [[0, 1, 1]], []])
        self.assertIsNone(end.heard([1, 1, 0]))
        self.assertEqual([end.tick(3), end.tick(4)], [[[0, 2, 2]], []])
        end.heard([1, 3, 0])
        self.assertEqual([end.tick(5), end.tick(6), end.tick(7)], [[[0, 3, 3]], [[0, 0, 4]], []])
        self.assertFalse(end.is_done())
        end.heard([1, 1, 0])
        self.assertTrue(end.is_done())

    def test_a_message_is_due_again_behind_the_wait(self):
        for wait in (1, 2, 7, 1000):
            end = End(1, 2, wait)
            end.give([5])
            self.assertEqual(end.tick(10), [[0, 0, 5]])
            if wait > 1:
                self.assertEqual([end.tick(11), end.tick(10 + wait - 1)], [[], []])
            self.assertEqual(end.tick(10 + wait), [[0, 0, 5]])
            self.assertEqual(end.tick(10 + 3 * wait), [[0, 0, 5]])
            end.heard([1, 1, 0])
            self.assertEqual(end.tick(10 + 9 * wait), [])

    def test_messages_that_are_answered_ahead_of_others_are_not_sent_again(self):
        end = End(4, 8, 2)
        for at in range(6):
            end.give([at])
        sent = [end.tick(now) for now in range(4)]
        self.assertEqual(sent, [[[0, 0, 0]], [[0, 1, 1]], [[0, 0, 0]], [[0, 1, 1]]])
        # The messages 2 and 3 were never sent: that they have come is not true, and plays no part.
        end.heard([1, 0, 0b1110])
        self.assertEqual([end.tick(now)[0][1] for now in range(5, 11)], [0, 2, 0, 2, 0, 2])
        end.heard([1, 0, 0b0100])
        self.assertEqual([end.tick(now) for now in range(12, 16)], [[[0, 0, 0]], [[0, 3, 3]], [[0, 0, 0]], [[0, 3, 3]]])

    def test_answers_come_first_and_once(self):
        end = End(2, 4, 9)
        end.give([1])
        end.heard([0, 0, 7])
        end.heard([0, 0, 7])
        self.assertEqual([end.tick(0), end.tick(1)], [[[1, 1, 0], [0, 0, 1]], []])
        # It comes again: nothing changes but that an answer is owed.
        end.heard([0, 0, 7])
        self.assertEqual([end.tick(2), end.tick(3)], [[[1, 1, 0]], []])

    def test_messages_of_all_lengths(self):
        for many in (0, 1, 199, 200):
            one, two = End(1, 2, 1), End(1, 2, 1)
            one.give(list(range(many)))
            frame = one.tick(0)[0]
            self.assertEqual(frame, [0, 0] + list(range(many)))
            two.heard(frame)
            self.assertEqual(two.taken(), [list(range(many))])

    def test_numbers_come_round_again(self):
        for window, numbers in ((1, 2), (1, 3), (3, 6), (3, 7), (8, 16), (8, 128), (1, 128)):
            one, two = End(window, numbers, 1), End(window, numbers, 1)
            for at in range(300):
                one.give([at % 256])
                self.assertEqual(one.tick(at), [[0, at % numbers, at % 256]])
                two.heard([0, at % numbers, at % 256])
                self.assertEqual(two.taken(), [[at % 256]])
                self.assertEqual(two.tick(at), [[1, (at + 1) % numbers, 0]])
                one.heard([1, (at + 1) % numbers, 0])
                self.assertTrue(one.is_done())


class Coming(unittest.TestCase):
    def test_messages_are_given_out_in_their_order(self):
        end = End(4, 8, 1)
        for place in (3, 1, 2):
            end.heard([0, place, place])
            self.assertEqual(end.taken(), [])
        self.assertEqual(end.tick(0), [[1, 0, 0b1110]])
        end.heard([0, 0])
        self.assertEqual([end.taken(), end.taken()], [[[], [1], [2], [3]], []])
        self.assertEqual(end.tick(1), [[1, 4, 0]])

    def test_what_an_answer_tells_by_its_bits(self):
        for window in range(1, 9):
            for numbers in (2 * window, 128):
                for come in range(2 ** (window - 1)):
                    end = End(window, numbers, 1)
                    places = [place for place in range(1, window) if come >> (place - 1) & 1]
                    for place in reversed(places):
                        end.heard([0, place, 9])
                    if places:
                        self.assertEqual(end.tick(0), [[1, 0, 2 * come]])
                    end.heard([0, 0, 9])
                    given = 0
                    while given in [0] + places:
                        given += 1
                    self.assertEqual(len(end.taken()), given)
                    byte = sum(2 ** (place - given) for place in places if place > given)
                    self.assertEqual(end.tick(1), [[1, given, byte]])

    def test_the_first_of_two_messages_with_one_place_counts(self):
        end = End(2, 4, 1)
        end.heard([0, 1, 5])
        end.heard([0, 1, 6])
        end.heard([0, 0, 4])
        end.heard([0, 0, 3])
        self.assertEqual(end.taken(), [[4], [5]])

    def test_messages_that_are_ignored(self):
        end = End(3, 8, 1)
        # No place has such a remainder, or it is behind the window, or negative.
        for number in list(range(3, 8)) + [8, 9, 128, 255]:
            end.heard([0, number, 1])
            self.assertEqual([end.tick(number), end.taken()], [[], []])
        for place in range(4):
            end.heard([0, place, place])
        self.assertEqual(end.tick(300), [[1, 4, 0]])
        # The next place is 4: 1 to 6 are in its window, 7 and 0 are not.
        for number in (7, 0, 8, 12):
            end.heard([0, number, 1])
            self.assertEqual([end.tick(301 + number), len(end.taken())], [[], 4 if number == 7 else 0])
        for number in (1, 2, 3):
            end.heard([0, number, 77])
            self.assertEqual([end.tick(400 + number), end.taken()], [[[1, 4, 0]], []])
        end.heard([0, 6, 6])
        self.assertEqual([end.tick(500), end.taken()], [[[1, 4, 4]], []])

    def test_other_lists_of_bytes_are_ignored(self):
        end = End(2, 4, 100)
        end.give([1])
        end.tick(0)
        for frame in ([], [0], [1], [2], [2, 0], [2, 0, 0], [255, 0, 0], [1, 1], [1, 1, 0, 0], [1, 1, 0, 0, 0]):
            end.heard(frame)
            self.assertEqual([end.tick(1), end.taken(), end.is_done()], [[], [], False])
        end.heard([1, 1, 0])
        self.assertTrue(end.is_done())


class Answered(unittest.TestCase):
    def sending(self, many, sent, window=3, numbers=8):
        end = End(window, numbers, 100)
        for at in range(many):
            end.give([at])
        for now in range(sent):
            end.tick(now)
        return end

    def left(self, end):
        """The numbers of all messages that are sent once more if all of them are due."""
        return [frame[1] for now in range(1000, 1016) for frame in end.tick(now)]

    def test_all_lesser_ones_and_those_of_the_bits(self):
        for number, byte, left in (
            (0, 0, [0, 1, 2]), (1, 0, [1, 2, 3]), (2, 0, [2, 3, 4]), (3, 0, [3, 4, 5]),
            (0, 0b010, [0, 2]), (0, 0b100, [0, 1]), (0, 0b110, [0]), (1, 0b010, [1, 3]), (1, 0b110, [1, 3]),
        ):
            end = self.sending(9, 3)
            end.heard([1, number, byte])
            self.assertEqual(self.left(end), left)

    def test_other_bits_play_no_part(self):
        for byte in (0b001, 0b1000, 0b11111001, 0b10000000):
            end = self.sending(3, 3)
            end.heard([1, 0, byte])
            self.assertEqual(self.left(end), [0, 1, 2])

    def test_answers_that_are_ignored(self):
        # The places 0 to 3 belong to the base 0; 4 to 7, 8 and more belong to none.
        for number in (4, 5, 6, 7, 8, 9, 255):
            end = self.sending(3, 3)
            end.heard([1, number, 0b110])
            self.assertEqual(self.left(end), [0, 1, 2])
        # A greater place than the number of the messages that have been sent.
        for sent in range(4):
            for number in range(4):
                end = self.sending(5, sent)
                end.heard([1, number, 0])
                self.assertEqual(self.left(end)[0], number if number <= sent else 0)

    def test_bits_count_as_far_as_such_messages_have_been_sent(self):
        end = self.sending(5, 2)
        end.heard([1, 0, 0b110])
        self.assertEqual(self.left(end), [0, 2])
        end.heard([1, 3, 0b110])
        self.assertEqual(self.left(end), [3, 4])
        end.heard([1, 5, 0])
        self.assertTrue(end.is_done())

    def test_is_done(self):
        end = self.sending(2, 2)
        self.assertFalse(end.is_done())
        end.heard([1, 0, 0b010])
        self.assertFalse(end.is_done())
        end.heard([1, 1, 0])
        self.assertTrue(end.is_done())
        end.give([])
        self.assertFalse(end.is_done())


class BySlowEnds(unittest.TestCase):
    def test_any_lists_of_bytes_at_any_time(self):
        source = random.Random(350)
        for _ in range(300):
            told = sizes(source)
            end, slow = End(*told), SlowEnd(*told)
            now = 0
            for _ in range(60):
                step = source.random()
                if step < 0.2:
                    message = [source.randrange(256) for _ in range(source.randrange(3))]
                    self.assertIsNone(end.give(message))
                    slow.give(message)
                elif step < 0.6:
                    frame = any_frame(source, told[1])
                    self.assertIsNone(end.heard(frame))
                    slow.heard(frame)
                elif step < 0.9:
                    self.assertEqual(end.tick(now), slow.tick(now))
                    now += source.choice((1, 1, 1, 2, 30))
                else:
                    self.assertEqual(end.taken(), slow.taken())
                self.assertEqual(end.is_done(), slow.is_done())

    def test_frames_that_are_near(self):
        source = random.Random(351)
        for _ in range(150):
            told = sizes(source)
            end, slow, far = End(*told), SlowEnd(*told), SlowEnd(*told)
            for now in range(80):
                if source.random() < 0.5:
                    message = [now]
                    for one in (end, slow, far):
                        one.give(message)
                frames = slow.tick(now)
                self.assertEqual(end.tick(now), frames)
                for frame in frames:
                    if source.random() < 0.7:
                        far.heard(frame)
                for frame in far.tick(now):
                    if source.random() < 0.7:
                        end.heard(frame)
                        slow.heard(frame)
                self.assertEqual([end.taken(), end.is_done()], [slow.taken(), slow.is_done()])


class Wire:
    """A line that loses frames, carries them more than once, and keeps their order."""

    def __init__(self, source, loss, doubles, delay):
        self.source, self.loss, self.doubles, self.delay = source, loss, doubles, delay
        self.under_way, self.last = [], 0

    def send(self, now, frame):
        for _ in range(self.source.choice(self.doubles)):
            if self.source.random() >= self.loss:
                self.last = max(self.last, now + 1 + self.source.randint(0, self.delay))
                self.under_way.append((self.last, frame))

    def arrived(self, now):
        told = [frame for at, frame in self.under_way if at <= now]
        self.under_way = self.under_way[len(told):]
        return told


class Lines(unittest.TestCase):
    def test_what_is_given_out_is_a_beginning_of_what_was_taken_in(self):
        source = random.Random(352)
        whole = 0
        for _ in range(80):
            told = sizes(source)
            told = (told[0], told[1], source.choice((1, 2, 5)))
            ends = [End(*told), End(*told)]
            loss, delay = source.choice((0, 0.3, 0.7)), source.choice((0, 1, 6, 40))
            wires = [Wire(source, loss, source.choice(((1,), (1, 2), (1, 4, 9))), delay) for _ in range(2)]
            given, out = [[], []], [[], []]
            for now in range(300):
                for side in range(2):
                    for frame in wires[1 - side].arrived(now):
                        ends[side].heard(frame)
                        if source.random() < 0.5:
                            out[side] += ends[side].taken()
                    out[side] += ends[side].taken()
                    self.assertEqual(out[side], given[1 - side][:len(out[side])])
                for side in range(2):
                    if now < 200 and source.random() < (0.5, 0.1)[side]:
                        given[side].append([source.randrange(256) for _ in range(source.randrange(3))])
                        ends[side].give(given[side][-1])
                    for frame in ends[side].tick(now):
                        wires[side].send(now, frame)
                    if ends[side].is_done():
                        self.assertEqual(len(out[1 - side]), len(given[side]))
            whole += out == [given[1], given[0]]
        self.assertGreater(whole, 20)


class Ticks(unittest.TestCase):
    def test_told_ticks(self):
        for messages, wait, delay, k, ticks in ((2, 5, 1, 2, 52), (0, 5, 1, 2, 0), (1, 1, 0, 1, 3), (3, 1000, 7, 4, 48120)):
            self.assertEqual(told_ticks(messages, wait, delay, k), ticks)
            self.assertEqual(messages * (k * (k * wait + delay + 1) + delay + 1), ticks)

    def both(self, source, told, many, delay, k):
        """Two ends, of which one took messages in; frames are lost, but one of any k with the same message comes."""
        one, two = End(*told), End(*told)
        messages = [[source.randrange(256), at] for at in range(many)]
        for message in messages:
            one.give(message)
        lost = {}
        ways = [[], []]
        out = []
        for now in range(told_ticks(many, told[2], delay, k)):
            for side, end in ((0, two), (1, one)):
                for at, frame in [pair for pair in ways[side] if pair[0] <= now]:
                    end.heard(frame)
                ways[side] = [pair for pair in ways[side] if pair[0] > now]
            out += two.taken()
            for side, end in ((0, one), (1, two)):
                for frame in end.tick(now):
                    key = (side, tuple(frame) if frame[0] == 0 else "answer")
                    if lost.get(key, 0) < k - 1 and source.random() < 0.9:
                        lost[key] = lost.get(key, 0) + 1
                    else:
                        lost[key] = 0
                        last = max([at for at, _ in ways[side]], default=0)
                        ways[side].append((max(last, now + 1 + source.choice((0, delay))), frame))
        return one.is_done(), out == messages

    def test_all_is_done_within_them(self):
        source = random.Random(353)
        for window in range(1, 9):
            for numbers in (2 * window, 128):
                for delay, k, wait in ((0, 1, 1), (0, 3, 1), (2, 2, 3), (5, 1, 2), (1, 4, 2)):
                    many = source.randint(1, 12)
                    self.assertEqual(self.both(source, (window, numbers, wait), many, delay, k), (True, True))


class Kept(unittest.TestCase):
    def test_lists_that_are_handed_in_are_not_kept(self):
        one, two = End(2, 4, 1), End(2, 4, 1)
        message = [1, 2]
        one.give(message)
        message.append(3)
        frames = one.tick(0)
        self.assertEqual(frames, [[0, 0, 1, 2]])
        two.heard(frames[0])
        self.assertEqual(frames, [[0, 0, 1, 2]])
        spoil(frames)
        self.assertEqual(one.tick(5), [[0, 0, 1, 2]])
        told = two.taken()
        self.assertEqual(told, [[1, 2]])
        spoil(told)
        self.assertEqual([two.taken(), two.tick(1)], [[], [[1, 1, 0]]])

    def test_arguments_stay_and_results_share_nothing(self):
        source = random.Random(354)
        for _ in range(20):
            told = sizes(source)
            end, slow = End(*told), SlowEnd(*told)
            passed, returned = [], []
            for now in range(60):
                message = [now]
                frame = any_frame(source, told[1])
                for thing, call, beside in ((message, end.give, slow.give), (frame, end.heard, slow.heard)):
                    ahead = copy.deepcopy(thing)
                    call(thing)
                    self.assertEqual(thing, ahead)
                    beside(list(thing))
                    spoil(thing)
                    passed.append(thing)
                for result, wanted in ((end.tick(now), slow.tick(now)), (end.taken(), slow.taken())):
                    self.assertEqual(result, wanted)
                    spoil(result)
                    returned.append(result)
            parts = [id(part) for result in returned for part in changeable(result)]
            self.assertEqual(len(parts), len(set(parts)))
            self.assertFalse(set(parts) & {id(thing) for thing in passed})


if __name__ == "__main__":
    unittest.main()
