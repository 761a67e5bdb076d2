"""Runs that come several times, in parts, and are heard by all of them together."""

from heardtrue.errors import ShapeError
from heardtrue.lines import cost
from heardtrue.pairs import Pairs, least_distance
from heardtrue.potentials import check_paper, shown_and_paper
from heardtrue.runs import verdict_of
from heardtrue.senders import check_sender
from heardtrue.smears import Rooms, first_room, outward, paid_trellis, run_size, windows_of
from heardtrue.trellises import grown


def check_parts(parts):
    """Raises ShapeError with the first name that applies, if there is one."""
    if len(parts) == 0:
        raise ShapeError("parts")
    for sender, _ in parts:
        check_sender(sender)
    _, machine, pattern, _ = parts[0][0]
    if not all([sender[1] == machine and len(sender[2]) == len(pattern) for sender, _ in parts]):
        raise ShapeError("parts")


class PartRooms:
    """The rooms of runs that come in parts, each one a tuple with the room of each part, and the steps from them."""

    def __init__(self, parts):
        self.part_rooms = [Rooms(sender, line) for sender, line in parts]

    def steps(self, room, left):
        """The steps from a room, with a list of the samples of all parts."""
        told = [side.steps(inner, left) for side, inner in zip(self.part_rooms, room)]
        return [step_of_all(beside) for beside in zip(*told)]


def step_of_all(steps):
    """The step that makes the steps of all parts, which have one label."""
    return (steps[0][0], tuple([after for _, after, _ in steps]), [clear for _, _, clear in steps])


def repeat_trellis(parts, blocks, heard):
    """The trellis of a run that came in parts."""
    sizes = [run_size(sender, line, blocks) for sender, line in parts]
    if [len(samples) for samples in heard] != sizes:
        raise ShapeError("samples")
    rooms = PartRooms(parts)
    begin = tuple([first_room(line) for _, line in parts])
    stages, last = grown(begin, rooms.part_rooms[0].marks(blocks), rooms.steps)
    windows = [windows_of(sender, samples, len(stages)) for (sender, _), samples in zip(parts, heard)]
    return paid_trellis(
        stages, last,
        lambda at, clear: sum([cost(window[at], part) for window, part in zip(windows, clear)]),
        lambda room: [outward(line, inner[1]) for (_, line), inner in zip(parts, room)])


def hear_repeats(parts, blocks, heard):
    """The verdict on the samples of all parts, and a paper that is taken for it."""
    shown, paper = shown_and_paper(repeat_trellis(parts, blocks, heard))
    return (verdict_of(parts[0][0], blocks, shown), paper)


def check_repeats(parts, blocks, heard, paper):
    """The verdict that a thing of any kind shows if it is a paper that is taken, or None."""
    shown = check_paper(repeat_trellis(parts, blocks, heard), paper)
    return None if shown is None else verdict_of(parts[0][0], blocks, shown)


def repeat_distance(parts, blocks):
    """The joint distance, or None for no blocks."""
    return least_distance(Pairs(parts), blocks)
