"""The two ends of a pair of lines that lose frames, and carry some of them more than once."""

from heardtrue.errors import ShapeError
from heardtrue.kinds import is_between

MOST_WINDOW = 8
MOST_NUMBERS = 128
MOST_WAIT = 1000


class End:
    """An end: it takes messages in, and gives out those that the other end took in.

    Messages are told by their places. The base is the least place of one that is not answered, the edge the least place
    of one that was never sent, and the goal the least place of one that has not come.
    """

    def __init__(self, window, numbers, wait):
        if not is_between(window, 1, MOST_WINDOW):
            raise ShapeError("window")
        if not is_between(numbers, 2 * window, MOST_NUMBERS):
            raise ShapeError("numbers")
        if not is_between(wait, 1, MOST_WAIT):
            raise ShapeError("wait")
        self.window = window
        self.numbers = numbers
        self.wait = wait
        self.messages = []
        self.base = 0
        self.edge = 0
        self.sent_at = {}
        self.answered = {}
        self.goal = 0
        self.arrived = {}
        self.ready = []
        self.owing = False

    def give(self, message):
        """Takes a message in."""
        self.messages.append(list(message))

    def heard(self, frame):
        """Takes a list of bytes that came."""
        if len(frame) >= 2 and frame[0] == 0:
            self.heard_message(frame[1], frame[2:])
        elif len(frame) == 3 and frame[0] == 1:
            self.heard_answer(frame[1], frame[2])

    def place_of(self, number, least, most):
        """The place from the least to the most one to which a number belongs, or None; there are not two of them."""
        place = least + (number - least) % self.numbers
        return place if number < self.numbers and 0 <= place <= most else None

    def heard_message(self, number, message):
        """Takes a message that came with a number."""
        place = self.place_of(number, self.goal - self.window, self.goal + self.window - 1)
        if place is None:
            return
        self.owing = True
        if place >= self.goal and place not in self.arrived:
            self.arrived[place] = message
        while self.goal in self.arrived:
            self.ready.append(self.arrived.pop(self.goal))
            self.goal += 1

    def heard_answer(self, number, told):
        """Takes an answer: the number of the least place that has not come, and the byte about those behind it."""
        place = self.place_of(number, self.base, self.base + self.window)
        if place is None or place > self.edge:
            return
        behind = [place + i for i in range(1, self.window) if (told >> i) & 1 == 1]
        for known in list(range(self.base, place)) + behind:
            if known < self.edge:
                self.answered[known] = True
        while self.base in self.answered:
            self.base += 1

    def tick(self, now):
        """The frames that are sent in a tick."""
        frames = []
        if self.owing:
            frames.append(self.answer())
            self.owing = False
        place = self.due_place(now)
        if place is not None:
            frames.append([0, place % self.numbers] + self.messages[place])
            self.sent_at[place] = now
            self.edge = max(self.edge, place + 1)
        return frames

    def answer(self):
        """The frame that tells which messages have come."""
        told = sum([1 << i for i in range(1, self.window) if self.goal + i in self.arrived])
        return [1, self.goal % self.numbers, told]

    def due_place(self, now):
        """The least place of a message that is due, or None."""
        for place in range(self.base, min(self.base + self.window, len(self.messages))):
            if place not in self.answered:
                if place not in self.sent_at or now - self.sent_at[place] >= self.wait:
                    return place
        return None

    def taken(self):
        """The messages that have been given out since the last call."""
        ready = self.ready
        self.ready = []
        return ready

    def is_done(self):
        """True if all messages that were taken in are answered."""
        return self.base == len(self.messages)


def told_ticks(messages, wait, delay, k):
    """After how many ticks so many messages are all out and answered."""
    return messages * (k * (k * wait + delay + 1) + delay + 1)
