"""The tests' own field: a plain list of deeds, which makes every drawing anew, by the words of section 16.

A deed is a tuple: the name of the method of a Field, then what it is handed.
"""

import random
import re

from ringsorways.errors import (Along, BadEnd, BadFence, BadNumber, BadPoint, BadPrice, BadSpot, Covered, Leans, NoName,
                                NothingToRedo, NothingToUndo, Same)
from tests.ruler import is_true_point, is_true_spot
from tests.support import ends_of, line_of, slow_lies_on, slow_meet, text_of

INTEGER = "(0|-?[1-9][0-9]*)"
FENCE = re.compile("fence ([a-z]{1,6})" + 5 * (" " + INTEGER) + r"\Z")


def read_line(line):
    """The fence that this line tells; None if it tells none."""
    found = FENCE.match(line) if type(line) is str else None
    if not found:
        return None
    x, y, u, v, price = map(int, found.groups()[1:])
    if max(map(abs, (x, y, u, v))) > 1000 or (x, y) == (u, v) or not 1 <= price <= 99:
        return None
    return (found.group(1), (x, y), (u, v), price)


def are_along(one, other):
    return slow_meet(*ends_of(one), *ends_of(other)) == ("along",)


def first_covered(marks, fence):
    return next((mark for mark in marks if slow_lies_on(*ends_of(fence), mark)), None)


def with_end(fence, end, point):
    return (fence[0],) + ((point[:2], fence[2]) if end == 0 else (fence[1], point[:2])) + fence[3:]


def after(state, deed):
    """(state, None) behind this deed; (None, (error, value)) if it is refused. A state is (fences, marks)."""
    fences, marks = state
    if deed[0] == "put":
        return after_put(fences, marks, deed[1])
    if deed[0] == "mark":
        if not is_true_spot(fences, deed[1]):
            return None, (BadSpot, deed[1])
        return (fences, marks + [deed[1]]), None
    place = next((k for k, fence in enumerate(fences) if fence[0] == deed[1]), None)
    if place is None:
        return None, (NoName, deed[1])
    if deed[0] == "take":
        return (fences[:place] + fences[place + 1:], marks), None
    if deed[0] == "price":
        if type(deed[2]) is not int or not 1 <= deed[2] <= 99:
            return None, (BadPrice, deed[2])
        return (fences[:place] + [fences[place][:3] + (deed[2],)] + fences[place + 1:], marks), None
    return after_lead(fences, marks, place, *deed[2:])


def after_put(fences, marks, line):
    fence = read_line(line)
    if fence is None or len(fences) == 40 or any(one[0] == fence[0] or are_along(one, fence) for one in fences):
        return None, (BadFence, line)
    covered = first_covered(marks, fence)
    return (None, (Covered, covered)) if covered else ((fences + [fence], marks), None)


def after_lead(fences, marks, place, end, point):
    if type(end) is not int or end not in (0, 1):
        return None, (BadEnd, end)
    if not is_true_point(point) or point[2] != 1 or max(map(abs, point)) > 1000:
        return None, (BadPoint, point)
    if fences[place][2 - end] == point[:2]:
        return None, (Same, (point, point))
    led = with_end(fences[place], end, point)
    for other in fences[:place] + fences[place + 1:]:
        if are_along(led, other):
            return None, (Along, (led[0], other[0]))
    covered = first_covered(marks, led)
    if covered:
        return None, (Covered, covered)
    return (fences[:place] + [led] + fences[place + 1:], marks), None


def deed_line(deed):
    """The line of a journal that tells this deed."""
    parts = [deed[0]]
    for part in deed[1:]:
        parts += [str(number) for number in part] if type(part) is tuple else [str(part)]
    return " ".join(parts[:-1] if deed[0] == "lead" else parts)


class PlainField:
    def __init__(self):
        self.stood, self.undone = [], []

    def state_behind(self, many):
        """(fences, marks) behind so many deeds, all of them done anew."""
        state = ([], [])
        for deed in self.stood[:many]:
            state, due = after(state, deed)
            assert due is None
        return state

    def text(self, many=None):
        return text_of(self.state_behind(len(self.stood) if many is None else many)[0])

    def marks(self):
        return tuple(self.state_behind(len(self.stood))[1])

    def journal(self):
        return "\n".join(["field"] + [deed_line(deed) for deed in self.stood])

    def act(self, deed):
        """Do a deed, undo, redo or strike; returned is (error, value) that is due, None if it is done."""
        if deed[0] == "undo":
            if not self.stood:
                return NothingToUndo, None
            self.undone.append(self.stood.pop())
            return None
        if deed[0] == "redo":
            if not self.undone:
                return NothingToRedo, None
            self.stood.append(self.undone.pop())
            return None
        if deed[0] == "strike":
            return self.strike(deed[1])
        due = after(self.state_behind(len(self.stood)), deed)[1]
        if due is None:
            self.stood.append(deed)
            self.undone = []
        return due

    def strike(self, number):
        if type(number) is not int or not 0 <= number < len(self.stood):
            return BadNumber, number
        state = self.state_behind(number)
        for place in range(number + 1, len(self.stood)):
            state, due = after(state, self.stood[place])
            if due is not None:
                return Leans, place
        del self.stood[number]
        self.undone = []
        return None

    def saved(self):
        return list(self.stood), list(self.undone)

    def restore(self, saved):
        self.stood, self.undone = list(saved[0]), list(saved[1])


def some_deed(dice, plain):
    """A drawn deed, undo, redo or strike; some are refused."""
    # What is taken back is done again often, before another deed bars it.
    if plain.undone and dice.random() < 0.5:
        return (dice.choice(("undo", "redo", "redo")),)
    choice, name = dice.random(), dice.choice("abcdefgh")
    point = (dice.randint(-4, 4), dice.randint(-4, 4), 1)
    if choice < 0.32:
        other = (dice.randint(-4, 4), dice.randint(-4, 4))
        line = line_of((name, point[:2], other, dice.randint(1, 9)))
        return ("put", dice.choice((line,) * 9 + (line + " ", line[:-1], line.replace(" ", "  ", 1), line + "0", 7)))
    if choice < 0.4:
        return ("take", dice.choice((name,) * 6 + ("A", "", "ab", None)))
    if choice < 0.5:
        return ("price", name, dice.choice((1, 2, 5, 9, 99, 0, 100, -1, True, "5")))
    if choice < 0.68:
        points = (point,) * 9 + (point[:2], (1, 1, 2))
        return ("lead", name, dice.choice((0, 1) * 6 + (2, -1, True)), dice.choice(points))
    if choice < 0.8:
        return ("mark", (dice.randint(-9, 9), dice.randint(-9, 9), dice.choice((1, 2, 3, 2))))
    if choice < 0.88:
        return ("undo",)
    if choice < 0.91:
        return ("redo",)
    return ("strike", dice.randint(-1, len(plain.stood)))


def some_field(seed, many):
    """A PlainField with some drawn deeds."""
    dice, plain = random.Random(seed), PlainField()
    for _ in range(many):
        plain.act(some_deed(dice, plain))
    return plain
