"""Section 13: drawings laid over one another."""

import random
import unittest
from fractions import Fraction

from ringsorways import overlay as module
from ringsorways.drawings import Drawing, led_over
from ringsorways.errors import Along, Full, Twice
from ringsorways.lands import area, lands
from ringsorways.overlay import both, overlay
from ringsorways.spots import land_of, way_between
from tests.drawn import boxes, crossing, drawing_of, kinds, net, priced_anew, random_spots, spots_beside
from tests.ruler import Map
from tests.support import Exact, ends_of, name_number, place, point_of, slow_drawing, slow_meet, text_of

ONE = "drawing\nfence a 0 0 4 0 1\nfence b 4 0 0 4 1\nfence c 0 4 0 0 1"
OTHER = "drawing\nfence d 1 -1 1 5 2\nfence e 1 5 9 5 2\nfence f 9 5 1 -1 2"


def renamed(fences, sign="q"):
    """The same fences by other names."""
    return [(sign + fence[0],) + tuple(fence[1:]) for fence in fences]


def moved(fences, dx, dy):
    return [(name, (a[0] + dx, a[1] + dy), (b[0] + dx, b[1] + dy), price) for name, a, b, price in fences]


def expected_error(one, other):
    """(error, value) that is due for these two lists of fences; None if they can be laid over one another."""
    for fence in one:
        if any(fence[0] == two[0] for two in other):
            return Twice, fence[0]
    for fence in one:
        for two in other:
            if slow_meet(*ends_of(fence), *ends_of(two)) == ("along",):
                return Along, (fence[0], two[0])
    return (Full, len(one) + len(other)) if len(one) + len(other) > 40 else None


def point_beside(fences, corners, ends):
    """Some point at the left of the piece with these ends, nothing lying between it and the midst of the piece."""
    (px, py), (qx, qy) = place(corners[ends[0]]), place(corners[ends[1]])
    mx, my, aside = (px + qx) / 2, (py + qy) / 2, Fraction(1)
    while True:
        spot = point_of(mx - (qy - py) * aside, my + (qx - px) * aside)
        met = [slow_meet(point_of(mx, my), spot, *ends_of(fence)) for fence in fences]
        if sorted(how[0] for how in met if how != ("none",)) == ["touch"]:
            return spot
        aside /= 2


def slow_both(one, other):
    """What both tells of two lists of fences: for each land of both a point in it, and the half lines from there."""
    fences = list(one) + list(other)
    together, first, second = [Map(*slow_drawing(rows)) for rows in (fences, one, other)]
    told = [(0, 0)]
    for rim in together.rims[1:]:
        spot = point_beside(fences, together.corners, together.ends[together.rounds[rim][0]])
        told.append((first.land_around(spot), second.land_around(spot)))
    return tuple(told)


def pairs(seed):
    """(name, fences, fences) of drawings to be laid over one another; a few cannot be."""
    dice = random.Random(seed)
    found = kinds(seed)
    others = kinds(seed + 100)
    dice.shuffle(others)
    told = [(f"{name} {called}", fences, renamed(more)) for (name, fences), (called, more) in zip(found, others)]
    # Narrow ones reach as far as fences may.
    told += [(f"{name} moved", fences, renamed(moved(fences, 1 + seed % 3, 2)))
             for name, fences in found if name != "narrow"]
    return told


class TestExamples(Exact):
    def test_all(self):
        one, other = Drawing(ONE), Drawing(OTHER)
        self.tells([len(overlay(one, other)), both(one, other)], [6, ((0, 0), (1, 0), (1, 1), (0, 1), (1, 0), (0, 1))])
        self.refuses(Along, ("a", "g"), overlay, one, Drawing("drawing\nfence g 3 0 5 0 1"))

    def test_what_is_told_below(self):
        together = overlay(Drawing(ONE), Drawing(OTHER))
        self.assertIn((7, 0, 3), together.corners)
        self.assertIn((23, 5, 7), together.corners)
        self.tells([land_of(together, spot) for spot in ((1, 1, 2), (13, 1, 4), (2, 1, 1), (3, 7, 2))], [1, 4, 2, 5])


class TestInterface(Exact):
    def test_the_functions_are_defined_in_the_file(self):
        for function in (overlay, both):
            self.assertEqual(function.__module__, "ringsorways.overlay")
            self.assertIs(getattr(module, function.__name__), function)

    def test_arguments_by_name_and_equal_calls(self):
        one, other = Drawing(ONE), Drawing(OTHER)
        self.tells(overlay(other=other, one=one).text, ONE + OTHER[7:])
        self.tells(both(other=other, one=one), both(Drawing(ONE), Drawing(OTHER)))
        self.tells([one.text, one.pieces, other.text], [ONE, Drawing(ONE).pieces, OTHER])
        self.assertEqual(overlay(one, other), overlay(Drawing(ONE), Drawing(OTHER)))

    def test_the_kinds_of_what_is_told(self):
        together = overlay(Drawing(ONE), Drawing(OTHER))
        self.assertIs(type(together), Drawing)
        plain = Drawing(ONE + OTHER[7:])
        self.tells([together.fences, together.corners, together.pieces], [plain.fences, plain.corners, plain.pieces])
        told = both(Drawing(ONE), Drawing(OTHER))
        self.assertTrue(all(type(row) is tuple and [type(land) for land in row] == [int, int] for row in told))


class TestErrors(Exact):
    def refused(self, one, other, error, value):
        for function in (overlay, both):
            self.refuses(error, value, function, one, other)

    def drawn(self, *rows):
        return Drawing("\n".join(["drawing"] + ["fence " + row for row in rows]))

    def test_twice(self):
        one = self.drawn("a 0 0 4 0 1", "b 4 0 0 4 1", "c 0 4 0 0 1")
        self.refused(one, one, Twice, "a")
        self.refused(one, self.drawn("c 50 50 60 60 1", "b 70 70 80 85 1"), Twice, "b")
        self.refused(self.drawn("z 1 1 2 2 1", "y 0 0 9 1 1"), self.drawn("x 7 7 8 9 1", "y 20 20 30 31 1"), Twice, "y")

    def test_along(self):
        one = self.drawn("a 0 0 4 0 1", "b 4 0 0 4 1", "c 0 4 0 0 1")
        other = self.drawn("d 0 3 0 9 1", "e 0 -9 0 1 1", "f 1 3 -1 5 1", "g 3 1 9 -5 1")
        self.refused(one, other, Along, ("b", "f"))
        self.refused(one, self.drawn("d 0 3 0 9 1", "e 0 -9 0 1 1"), Along, ("c", "d"))
        self.refused(other, one, Along, ("d", "c"))
        # One point in common is none too many.
        self.tells(len(overlay(one, self.drawn("d 0 4 0 9 1", "e 4 0 9 0 1", "f 9 9 2 2 1"))), 6)

    def test_full(self):
        twenty = [f"{name_number(k)} 0 {k} 9 {k} 1" for k in range(20)]
        upright = [f"{name_number(100 + k)} {k} 0 {k} 99 1" for k in range(21)]
        self.refused(self.drawn(*twenty), self.drawn(*upright), Full, 41)
        self.tells(len(overlay(self.drawn(*twenty), self.drawn(*upright[1:]))), 40)
        forty = [f"{name_number(k)} 0 {k} 9 {k} 1" for k in range(40)]
        far = [f"{name_number(100 + k)} {k} 100 {k} 199 1" for k in range(40)]
        self.refused(self.drawn(*forty), self.drawn(*far), Full, 80)
        self.refused(self.drawn(*forty), self.drawn(far[0]), Full, 41)
        self.refused(self.drawn(far[0]), self.drawn(*forty), Full, 41)
        self.tells(len(overlay(self.drawn(*forty), self.drawn())), 40)
        self.tells(len(overlay(self.drawn(), self.drawn(*forty))), 40)

    def test_several_at_once(self):
        forty = [f"{name_number(k)} 0 {k} 9 {k} 1" for k in range(40)]
        # Twice is ahead of Along, whatever fence is to blame; both are ahead of Full.
        self.refused(self.drawn(*forty), self.drawn("xx 1 0 5 0 1", "bm 50 50 60 60 1"), Twice, "bm")
        self.refused(self.drawn(*forty), self.drawn("xx 1 0 5 0 1", "xy 50 50 60 60 1"), Along, ("aa", "xx"))
        self.refused(self.drawn(*forty), self.drawn("xx 1 3 5 3 1", "xy 1 2 5 2 1"), Along, ("ac", "xy"))
        self.refused(self.drawn("a 0 0 4 0 1"), self.drawn("b 1 0 3 0 1", "a 9 9 10 10 1"), Twice, "a")

    def test_drawn_pairs(self):
        counts = {Twice: 0, Along: 0, Full: 0, None: 0}
        for seed in range(14):
            for name, one, other in pairs(seed):
                for first, second in ((one, other), (other, one), (one, renamed(one)), (one, other + one[-1:])):
                    if first == one and second == other + one[-1:]:
                        # Two of other's own may lie along one another now.
                        if expected_error(other, one[-1:]) is not None:
                            continue
                    due = expected_error(first, second)
                    counts[due and due[0]] += 1
                    with self.subTest((name, seed)):
                        if due is None:
                            self.tells(overlay(drawing_of(first), drawing_of(second)).text, text_of(first + second))
                        else:
                            self.refused(drawing_of(first), drawing_of(second), *due)
        self.assertGreater(min(counts[Twice], counts[Along], counts[None]), 50)
        many = priced_anew(net(10, 11), 1)
        self.refused(drawing_of(many), drawing_of(renamed(moved(many, 1, 1))), Full, 42)


class Both(Exact):
    def holds(self, one, other, spots=()):
        """What is told of these lists of fences is right by points, by areas and by spots."""
        first, second = drawing_of(one), drawing_of(other)
        together = overlay(first, second)
        self.tells(together.text, text_of(list(one) + list(other)))
        told = both(first, second)
        self.tells(told, slow_both(one, other))
        self.tells(len(told), len(lands(together)))
        self.tells(told, tuple((b, a) for a, b in self.swapped(first, second, together)))
        for side, drawing in enumerate((first, second)):
            for land in range(1, len(lands(drawing))):
                within = [area(together, at) for at in range(1, len(told)) if told[at][side] == land]
                self.assertEqual(sum(Fraction(*part) for part in within), Fraction(*area(drawing, land)))
        for spot in spots:
            self.tells(told[land_of(together, spot)], (land_of(first, spot), land_of(second, spot)))
        return told

    def swapped(self, first, second, together):
        """both of the drawings the other way about, by the lands of together; they are numbered otherwise there."""
        rows = both(second, first)
        other = overlay(second, first)
        plain, twin = Map(together.corners, together.pieces), Map(other.corners, other.pieces)
        ends = [set(twin.ends[half] for half in twin.rounds[rim]) for rim in twin.rims[1:]]
        told = [rows[0]]
        for rim in plain.rims[1:]:
            told.append(rows[1 + ends.index(set(plain.ends[half] for half in plain.rounds[rim]))])
        return told


class TestBoth(Both):
    def test_without_fences(self):
        for name, fences in kinds(1):
            many = len(lands(drawing_of(fences)))
            self.tells(self.holds(fences, []), tuple((land, 0) for land in range(many)))
            self.tells(self.holds([], fences), tuple((0, land) for land in range(many)))
        self.tells(both(Drawing("drawing"), Drawing("drawing")), ((0, 0),))

    def test_drawn_pairs(self):
        held = 0
        for seed in range(3):
            for name, one, other in pairs(seed):
                if expected_error(one, other) is None:
                    held += 1
                    with self.subTest((name, seed)):
                        fences = one + other
                        spots = random_spots(fences, seed, 8, 7) + spots_beside(fences, slow_drawing(fences)[0])[::9]
                        self.holds(one, other, spots)
        self.assertGreater(held, 35)

    def test_forty_together(self):
        nets = priced_anew(net(10, 10), 2), moved(renamed(priced_anew(net(10, 10), 3)), 1, 1)
        inner = [row for k, row in enumerate(boxes(10)) if k // 4 % 2]
        outer = [row for k, row in enumerate(boxes(10)) if k // 4 % 2 == 0]
        rows = crossing(4, 14, 300)
        for one, other in (nets, (priced_anew(inner, 1), renamed(priced_anew(outer, 2))),
                           (priced_anew(rows[:7], 1), renamed(priced_anew(rows[7:], 2)))):
            with self.subTest(len(one)):
                self.holds(one, other, random_spots(list(one) + list(other), 3, 12, 20))

    def test_the_corners_of_both_together(self):
        for seed in range(6):
            for name, one, other in pairs(seed):
                if expected_error(one, other) is None:
                    together = overlay(drawing_of(one), drawing_of(other))
                    with self.subTest((name, seed)):
                        self.tells((together.corners, together.pieces), slow_drawing(one + other))

    def test_boxes_in_lands(self):
        # A box that lies in a land of the other drawing, and one that lies outside of it.
        one = priced_anew(boxes(2), 1)
        other = renamed(priced_anew([((a[0] // 3, a[1] // 3), (b[0] // 3, b[1] // 3)) for a, b in boxes(1)], 1))
        outside = renamed(moved(other, 50, 0))
        told = self.holds(one, other, [(0, 0, 1), (2, 0, 1), (4, 0, 1), (9, 0, 1)])
        self.tells(sorted(told), [(0, 0), (1, 0), (1, 1), (2, 0)])
        self.tells(sorted(self.holds(one, outside)), [(0, 0), (0, 1), (1, 0), (2, 0)])

    def test_unlike_lands_of_one_are_unlike_in_both(self):
        for seed in range(6):
            for name, one, other in pairs(seed):
                if expected_error(one, other) is None:
                    drawings = drawing_of(one), drawing_of(other)
                    together = overlay(*drawings)
                    spots = random_spots(one + other, seed + 1, 6, 6)
                    for a, b in zip(spots, spots[1:]):
                        alike = [land_of(drawing, a) == land_of(drawing, b) for drawing in drawings]
                        if not all(alike):
                            self.assertNotEqual(land_of(together, a), land_of(together, b))
                            self.assertIsNone(way_between(together, a, b))

    def test_each_leaves_another_way(self):
        # Two halves of a box: each leaves the spots within joined with those outside.
        low = priced_anew([((0, 0), (4, 0)), ((4, 0), (4, 4))], 1)
        high = renamed(priced_anew([((4, 4), (0, 4)), ((0, 4), (0, 0))], 1))
        self.tells(self.holds(low, high, [(1, 1, 1), (9, 9, 1)]), ((0, 0), (0, 0)))

    def test_turned_and_mirrored(self):
        for seed in range(2):
            for name, one, other in pairs(seed):
                if expected_error(one, other) is None:
                    told = sorted(both(drawing_of(one), drawing_of(other)))
                    for word in ("turned", "mirrored"):
                        led = [led_over(drawing_of(rows), word) for rows in (one, other)]
                        again = both(*led)
                        self.tells(len(again), len(told))
                        self.tells(led_over(overlay(drawing_of(one), drawing_of(other)), word).text,
                                   overlay(*led).text)
                        self.tells(again, slow_both(led[0].fences, led[1].fences))

    def test_pieces_of_long_fences(self):
        # Fences that go through many lands of the other drawing, told from either end.
        for turned in range(4):
            rows = [((-20, 1), (20, 2)), ((-20, -3), (20, 5))]
            rows = [(b, a) if turned >> k & 1 else (a, b) for k, (a, b) in enumerate(rows)]
            self.holds(priced_anew(boxes(4), 1), renamed(priced_anew(rows, 2)), [(0, 0, 1), (4, 0, 1)])


if __name__ == "__main__":
    unittest.main()
