"""What the tests share: exact comparison, wrong values, and a second way to work everything out.

The second way is slow and plain: it works with Fractions, and by its own equations.
"""

import random
import unittest
from fractions import Fraction
from math import lcm

from ringsorways.drawings import Drawing


class Exact(unittest.TestCase):
    """Tests that tell True from 1 and a list from a tuple, and that look at what errors keep."""

    def tells(self, told, expected):
        """told is expected, kinds of values included."""
        self.assertEqual(repr(told), repr(expected))
        self.assertEqual(told, expected)

    def refuses(self, error, value, function, *arguments, **named):
        """The call raises just this error, which keeps just this value."""
        with self.assertRaises(error) as caught:
            function(*arguments, **named)
        self.assertIs(type(caught.exception), error)
        self.tells(caught.exception.value, value)

    def refuses_the_very(self, error, value, function, *arguments, **named):
        """The call raises just this error, which keeps the very object that was handed in."""
        with self.assertRaises(error) as caught:
            function(*arguments, **named)
        self.assertIs(type(caught.exception), error)
        self.assertIs(caught.exception.value, value)


def deep(depth):
    """A value that is nested so deep."""
    value = 0
    for step in range(depth):
        value = (value,) if step % 2 else [value]
    return value


ANY_VALUES = (
    0, 1, -1, 7, 10 ** 12, True, False, None, "", "a", "fence", (), (0,), (0, 0), [], [0, 0, 1], {}, {"a": 1},
    ((0, 0, 1),), deep(30), Drawing("drawing"), Drawing("drawing\nfence a 0 0 1 0 1"),
)

WRONG_POINTS = ANY_VALUES + (
    [0, 0, 1], (0, 0), (0, 0, 1, 1), (0, 0, 0), (1, 0, 0), (0, 1, 0), (3, 2, 0),
    (0, 0, -1), (1, 1, -1), (2, 4, 2), (0, 0, 2), (3, 6, 9), (-2, 0, 4),
    (True, 0, 1), (0, False, 1), (0, 0, True), ("0", 0, 1), (0, None, 1), (0, 0, "1"), (0, 0, None), (0, 0, (1,)),
    ((0, 0), 0, 1), "001", {0: 0, 1: 0, 2: 1},
)


def whole(x, y):
    return (x, y, 1)


def place(point):
    """The coordinates of a point."""
    return Fraction(point[0], point[2]), Fraction(point[1], point[2])


def point_of(x, y):
    """The point with these coordinates."""
    bottom = lcm(Fraction(x).denominator, Fraction(y).denominator)
    return (int(x * bottom), int(y * bottom), bottom)


def cross(ux, uy, vx, vy):
    return ux * vy - uy * vx


def scaled(*points):
    """The coordinates of these points, all of them times one number, such that they are integers; and this number."""
    scale = lcm(*[point[2] for point in points])
    return [(point[0] * (scale // point[2]), point[1] * (scale // point[2])) for point in points], scale


def slow_side(a, b, c):
    ((ax, ay), (bx, by), (cx, cy)), _ = scaled(a, b, c)
    told = cross(bx - ax, by - ay, cx - ax, cy - ay)
    return (told > 0) - (told < 0)


def slow_lies_on(a, b, c):
    """Whether c lies on the stretch from a to b."""
    ((ax, ay), (bx, by), (cx, cy)), _ = scaled(a, b, c)
    if not (min(ax, bx) <= cx <= max(ax, bx) and min(ay, by) <= cy <= max(ay, by)):
        return False
    return cross(bx - ax, by - ay, cx - ax, cy - ay) == 0


def slow_meet(a, b, c, d):
    """What meet tells, by solving a + t (b - a) = c + s (d - c)."""
    ((ax, ay), (bx, by), (cx, cy), (dx, dy)), scale = scaled(a, b, c, d)
    ux, uy, vx, vy = bx - ax, by - ay, dx - cx, dy - cy
    turned = cross(ux, uy, vx, vy)
    if turned == 0:
        if cross(ux, uy, cx - ax, cy - ay) != 0:
            return ("none",)
        length = ux * ux + uy * uy
        shares = [Fraction((x - ax) * ux + (y - ay) * uy, length) for x, y in ((cx, cy), (dx, dy))]
        low, high = max(Fraction(0), min(shares)), min(Fraction(1), max(shares))
        if low > high:
            return ("none",)
        return ("along",) if low < high else ("touch", point_of((ax + low * ux) / scale, (ay + low * uy) / scale))
    if turned < 0:
        turned, vx, vy, cx, cy = -turned, -vx, -vy, dx, dy
    t, s = cross(cx - ax, cy - ay, vx, vy), cross(cx - ax, cy - ay, ux, uy)
    if not (0 <= t <= turned and 0 <= s <= turned):
        return ("none",)
    share = Fraction(t, turned)
    point = point_of((ax + share * ux) / scale, (ay + share * uy) / scale)
    return ("touch" if t in (0, turned) or s in (0, turned) else "cross", point)


def slow_inside(points, spot, direction):
    """What inside tells, by one half line; None if it goes through one of the points."""
    (*tips, (sx, sy)), _ = scaled(*points, spot)
    (ux, uy), odd = direction, False
    for k in range(len(tips)):
        ax, ay, bx, by = tips[k - 1][0] - sx, tips[k - 1][1] - sy, tips[k][0] - sx, tips[k][1] - sy
        one, other = cross(ux, uy, ax, ay), cross(ux, uy, bx, by)
        if one == 0 and ax * ux + ay * uy >= 0:
            return None
        # The stretch goes over the line of the half line; whether ahead of the spot, its turn about the spot tells.
        if one * other < 0 and (cross(ax, ay, bx, by) > 0) == (other > one):
            odd = not odd
    return odd


def ends_of(fence):
    """The two ends of a fence, as points."""
    return (fence[1][0], fence[1][1], 1), (fence[2][0], fence[2][1], 1)


def slow_drawing(fences):
    """(corners, pieces) of fences, no two of which have more than one point in common."""
    marked = []
    for fence in fences:
        (ax, ay), (bx, by) = [place(end) for end in ends_of(fence)]
        found = {(ax, ay), (bx, by)}
        for other in fences:
            met = slow_meet(*ends_of(fence), *ends_of(other)) if other is not fence else ("none",)
            if len(met) == 2:
                found.add(place(met[1]))
        marked.append(sorted(found, key=lambda spot: (spot[0] - ax) * (bx - ax) + (spot[1] - ay) * (by - ay)))
    corners = sorted(set(corner for row in marked for corner in row))
    pieces = []
    for fence, row in zip(fences, marked):
        numbers = [corners.index(corner) for corner in row]
        pieces.extend((fence[0], i, j) for i, j in zip(numbers, numbers[1:]))
    return tuple(point_of(x, y) for x, y in corners), tuple(pieces)


def name_number(number):
    """A name for each number, none twice."""
    return "abcdefghijklmnopqrstuvwxyz"[number // 26] + "abcdefghijklmnopqrstuvwxyz"[number % 26]


def line_of(fence):
    name, (x, y), (u, v), price = fence
    return f"fence {name} {x} {y} {u} {v} {price}"


def text_of(fences):
    return "\n".join(["drawing"] + [line_of(fence) for fence in fences])


def random_fences(seed, many, farthest):
    """Some fences that stand together, at most so many, the same ones for the same seed."""
    dice = random.Random(seed)
    fences = []
    for number in range(many):
        ends = [(dice.randint(-farthest, farthest), dice.randint(-farthest, farthest)) for _ in range(2)]
        fence = (name_number(number), ends[0], ends[1], dice.randint(1, 99))
        if ends[0] != ends[1] and not any(slow_meet(*ends_of(fence), *ends_of(one)) == ("along",) for one in fences):
            fences.append(fence)
    return fences
