"""Section 9: the cheapest way, the rings that bar it, and what it costs without a fence."""

import unittest

from ringsorways import cheapest as module
from ringsorways.cheapest import cheapest, cost_without, shows_cheapest
from ringsorways.drawings import Drawing, led_over, priced
from ringsorways.errors import BadSpot, NoName
from ringsorways.parting import ring_has, ring_price, way_price
from ringsorways.spots import land_of
from tests.drawn import drawing_of, great, in_other_sequence, kinds, random_spots, spots_beside, spread
from tests.judge import begun_elsewhere, bends, judge_cheapest, with_midpoints
from tests.ruler import Strips, mirrored, turned
from tests.support import ANY_VALUES, Exact, WRONG_POINTS

BOX = "drawing\nfence s 0 0 4 0 2\nfence e 4 0 4 4 3\nfence n 4 4 0 4 2\nfence w 0 4 0 0 5"
HUT = BOX + "\nfence t 1 1 3 1 1\nfence u 3 1 2 3 1\nfence v 2 3 1 1 1"
INNER, OUTER, MIDST = (1, 1, 1), (6, 1, 1), (2, 2, 1)
WAY = (INNER, (1, -2, 1), (6, -2, 1), OUTER)
RING = (0, 1, 3, 2)


class TestExamples(Exact):
    def test_box(self):
        box = Drawing(BOX)
        self.tells([cheapest(box, INNER, OUTER)[0], cost_without(box, INNER, OUTER, "s"),
                    cost_without(box, INNER, OUTER, "w")], [2, 2, 2])
        rows = ((((0, 1, 3, 2), 2),), (((2, 0, 1, 3), 1), ((3, 1, 0, 2), 1)), (((0, 1, 3, 2), 1),))
        self.tells([shows_cheapest(box, INNER, OUTER, (2, WAY, rings)) for rings in rows], [True, True, False])

    def test_hut(self):
        hut = Drawing(HUT)
        told = (3, ((2, 2, 1), (2, -1, 1), (6, -1, 1), (6, 1, 1)), (((2, 4, 3), 1), ((0, 5, 6, 1), 2)))
        self.tells([cheapest(hut, MIDST, OUTER)[0], shows_cheapest(hut, MIDST, OUTER, told),
                    cheapest(hut, OUTER, OUTER)[::2]], [3, True, (0, ())])


class TestInterface(Exact):
    def test_the_functions_are_defined_in_the_file(self):
        for function in (cheapest, shows_cheapest, cost_without):
            self.assertEqual(function.__module__, "ringsorways.cheapest")
            self.assertIs(getattr(module, function.__name__), function)

    def test_arguments_by_name_and_equal_calls(self):
        hut = Drawing(HUT)
        told = cheapest(other=OUTER, one=MIDST, drawing=hut)
        self.tells(told, cheapest(Drawing(HUT), MIDST, OUTER))
        self.tells(shows_cheapest(value=told, other=OUTER, one=MIDST, drawing=hut), True)
        self.tells(cost_without(name="t", other=OUTER, one=MIDST, drawing=hut), 3)
        self.tells([hut.text, hut.pieces], [HUT, Drawing(HUT).pieces])


class TestErrors(Exact):
    def test_spots(self):
        box = Drawing(BOX)
        worse = (2001, 0, 1)
        for value in [value for value in WRONG_POINTS] + [(0, 0, 1), (1, 0, 1), worse, (1, 1, 1001)]:
            with self.subTest(value):
                for function, more in ((cheapest, ()), (shows_cheapest, (None,)), (cost_without, ("s",)),
                                       (cost_without, ("no",)), (cost_without, (value,))):
                    self.refuses_the_very(BadSpot, value, function, box, value, OUTER, *more)
                    self.refuses_the_very(BadSpot, value, function, box, OUTER, value, *more)
                    self.refuses_the_very(BadSpot, value, function, box, value, worse, *more)
                    self.refuses_the_very(BadSpot, worse, function, box, worse, value, *more)

    def test_names(self):
        box = Drawing(BOX)
        for value in ANY_VALUES + ("S", "se", "x", "s ", b"s", ("s",), ["s"], 0):
            with self.subTest(value):
                self.refuses_the_very(NoName, value, cost_without, box, INNER, OUTER, value)
                self.refuses_the_very(NoName, value, cost_without, Drawing("drawing"), OUTER, OUTER, value)


class Costs(Exact):
    def holds(self, drawing, one, other, cost):
        """What is told is right, costs just so much, and is shown."""
        told = cheapest(drawing, one, other)
        self.assertTrue(judge_cheapest(drawing, one, other, told), told)
        self.tells(told[0], cost)
        if cost == 0:
            self.tells(told[2], ())
        self.tells(shows_cheapest(drawing, one, other, told), True)
        self.tells(shows_cheapest(drawing, other, one, told), one == other)
        self.tells(way_price(drawing, told[1]), cost)
        for ring, _ in told[2]:
            self.assertNotEqual(ring_has(drawing, ring, one), ring_has(drawing, ring, other))
            self.assertGreater(ring_price(drawing, ring), 0)
        return told

    def pairs(self, seed, many=4):
        """(name, fences, drawing, one, other) for small drawings."""
        for name, fences in kinds(seed):
            drawing = drawing_of(fences)
            spots = random_spots(fences, seed, 6) + spots_beside(fences, drawing.corners)[:8]
            told = [land_of(drawing, spot) for spot in spots]
            for one, other in spread(spots, told, seed, many):
                yield name, fences, drawing, one, other


class TestDrawn(Costs):
    def test_against_a_search_of_the_tests_own(self):
        for seed in range(10):
            for name, fences, drawing, one, other in self.pairs(seed):
                with self.subTest((name, seed, one, other)):
                    strips = Strips(fences, drawing.corners)
                    self.holds(drawing, one, other, strips.cost(one, other))
                    self.tells(strips.cost(one, other) == 0, land_of(drawing, one) == land_of(drawing, other))

    def test_without_each_fence(self):
        for seed in range(6):
            for name, fences, drawing, one, other in self.pairs(seed, 2):
                strips = Strips(fences, drawing.corners)
                cost = cheapest(drawing, one, other)[0]
                for fence in fences:
                    with self.subTest((name, seed, one, other, fence)):
                        told = cost_without(drawing, one, other, fence[0])
                        self.tells(told, strips.cost(one, other, fence[0]))
                        self.assertGreaterEqual(told, cost)
                        self.tells(cost_without(drawing, other, one, fence[0]), told)

    def test_great_ones(self):
        for name, fences, far in great(4):
            drawing = drawing_of(fences)
            strips = Strips(fences, drawing.corners) if len(drawing.pieces) < 160 else None
            spots = random_spots(fences, 6, 12, far)
            told = [land_of(drawing, spot) for spot in spots]
            for one, other in spread(spots, told, 2, 4):
                with self.subTest((name, one, other)):
                    cost = strips.cost(one, other) if strips else cheapest(drawing, one, other)[0]
                    self.holds(drawing, one, other, cost)
                    self.tells(cheapest(drawing, other, one)[0], cost)
                    if strips:
                        for fence in fences[::7]:
                            self.tells(cost_without(drawing, one, other, fence[0]),
                                       strips.cost(one, other, fence[0]))

    def test_boxes_within_one_another(self):
        # The innermost spot pays the cheapest side of each box, and each box is one ring.
        prices = [(5, 7, 6, 9), (8, 4, 9, 9), (3, 3, 3, 3)]
        lines = ["drawing"]
        for k, row in enumerate(prices):
            tips = [(-3 - k, -3 - k), (3 + k, -3 - k), (3 + k, 3 + k), (-3 - k, 3 + k)]
            lines += [f"fence {'abc'[k]}{'wxyz'[side]} {tips[side - 1][0]} {tips[side - 1][1]} {tips[side][0]} "
                      f"{tips[side][1]} {price}" for side, price in enumerate(row)]
        drawing = Drawing("\n".join(lines))
        told = self.holds(drawing, (0, 0, 1), (50, 0, 1), 5 + 4 + 3)
        self.tells(sorted(many for _, many in told[2]), [3, 4, 5])
        self.tells([cost_without(drawing, (0, 0, 1), (50, 0, 1), name) for name in ("aw", "bx", "cz")], [13, 16, 12])


class TestOtherwise(Costs):
    def test_one_price_rises(self):
        for seed in range(4):
            for name, fences, drawing, one, other in self.pairs(seed, 2):
                cost = cheapest(drawing, one, other)[0]
                for place, (called, _, _, price) in enumerate(fences):
                    with self.subTest((name, seed, called)):
                        dearer = priced(drawing, called, price + 1)
                        changed = [fence[:3] + (fence[3] + (k == place),) for k, fence in enumerate(fences)]
                        told = Strips(changed, drawing.corners).cost(one, other)
                        self.tells(cheapest(dearer, one, other)[0], told)
                        self.assertGreaterEqual(told, cost)
                        highest = cheapest(priced(drawing, called, 99), one, other)[0]
                        self.assertGreaterEqual(cost_without(drawing, one, other, called), highest)

    def test_all_prices_are_made_greater_alike(self):
        for seed in range(6):
            for name, fences, drawing, one, other in self.pairs(seed, 2):
                cost = cheapest(drawing, one, other)[0]
                greater = drawing_of([(called, a, b, 7 * price) for called, a, b, price in fences])
                self.holds(greater, one, other, 7 * cost)

    def test_turned_mirrored_and_in_another_sequence(self):
        for seed in range(5):
            for name, fences, drawing, one, other in self.pairs(seed, 2):
                with self.subTest((name, seed, one, other)):
                    cost = cheapest(drawing, one, other)[0]
                    self.holds(drawing_of(in_other_sequence(fences, seed)), one, other, cost)
                    self.holds(led_over(drawing, "turned"), turned(one), turned(other), cost)
                    self.holds(led_over(drawing, "mirrored"), mirrored(one), mirrored(other), cost)
                    for fence in fences[:3]:
                        told = cost_without(drawing, one, other, fence[0])
                        led = led_over(drawing, "turned")
                        self.tells(cost_without(led, turned(one), turned(other), fence[0]), told)


class TestShows(Exact):
    def shown(self, drawing, one, other, value):
        """It tells what the tests' own judgement tells."""
        told = judge_cheapest(drawing, one, other, value)
        self.tells(shows_cheapest(drawing, one, other, value), told)
        return told

    def test_values_of_any_kind(self):
        for value in ANY_VALUES + ((2, WAY), (2, WAY, ()), (2, WAY, ((RING, 2),), None), (0, WAY, ()), (2, (), ()),
                                   (2, WAY, [(RING, 2)]), (2, WAY, ([RING, 2],)), (2, WAY, ((RING,),)),
                                   [2, WAY, ((RING, 2),)], (2, list(WAY), ((RING, 2),))):
            self.tells(shows_cheapest(Drawing(BOX), INNER, OUTER, value), False)
            right = value == (0, WAY, ())
            self.tells(shows_cheapest(Drawing("drawing"), INNER, OUTER, value), right)

    def test_right_ones_that_the_program_did_not_make(self):
        box = Drawing(BOX)
        way = WAY
        for at in range(4):
            ring = begun_elsewhere(RING, at)
            for rings in (((ring, 2),), ((ring[::-1], 2),), ((ring, 1), (ring, 1)), ((ring, 1), (ring[::-1], 1))):
                self.assertTrue(self.shown(box, INNER, OUTER, (2, way, rings)))
                self.assertTrue(self.shown(box, OUTER, INNER, (2, way[::-1], rings)))
                self.assertFalse(self.shown(box, OUTER, INNER, (2, way, rings)))
            way = with_midpoints(way)
        # A way may be made longer by one that leads back.
        self.assertTrue(self.shown(box, OUTER, OUTER, (0, (OUTER, (9, 9, 1), OUTER), ())))

    def test_wrong_numbers(self):
        box = Drawing(BOX)
        for many in (0, -1, 1, 3, 10 ** 30, True, "2", None, 2):
            self.tells(self.shown(box, INNER, OUTER, (2, WAY, ((RING, many),))), many == 2)
        for rings in (((RING, 3), (RING, -1)), ((RING, 2), (RING, 0)), ((RING, 10 ** 40), (RING, 2 - 10 ** 40))):
            self.assertFalse(self.shown(box, INNER, OUTER, (2, WAY, rings)))
        for cost in (0, 1, 3, -2, "2", None, (2,), True):
            self.assertFalse(self.shown(box, INNER, OUTER, (cost, WAY, ((RING, 2),))))
        one = Drawing(BOX.replace("0 0 4 0 2", "0 0 4 0 1"))
        for cost, many in ((1, 1), (True, 1), (1, True), (True, True)):
            told = (cost, WAY, ((RING, many),))
            self.tells(self.shown(one, INNER, OUTER, told), (type(cost), type(many)) == (int, int))
        self.tells([shows_cheapest(box, OUTER, OUTER, (cost, (OUTER,), ())) for cost in (0, False, None, 1)],
                   [True, False, False, False])

    def test_a_dear_way_with_as_many_rings(self):
        box = Drawing(BOX)
        east = (INNER, (6, 1, 1))
        self.assertFalse(self.shown(box, INNER, OUTER, (3, east, ((RING, 3),))))
        self.assertFalse(self.shown(box, INNER, OUTER, (3, east, ((RING, 2),))))
        twice = (INNER, (1, -2, 1), (1, 1, 1), (1, -2, 1), (6, -2, 1), OUTER)
        self.assertFalse(self.shown(box, INNER, OUTER, (2, twice, ((RING, 2),))))
        self.assertFalse(self.shown(box, INNER, OUTER, (6, twice, ((RING, 6),))))

    def test_rings_and_ways_of_other_spots(self):
        hut = Drawing(HUT)
        inner, outer = (2, 4, 3), (0, 5, 6, 1)
        way = (MIDST, (2, -1, 1), (6, -1, 1), OUTER)
        self.assertTrue(self.shown(hut, MIDST, OUTER, (3, way, ((inner, 1), (outer, 2)))))
        self.assertFalse(self.shown(hut, MIDST, OUTER, (3, way, ((inner, 2), (outer, 1)))))
        self.assertFalse(self.shown(hut, (1, 3, 1), OUTER, (3, way, ((inner, 1), (outer, 2)))))
        self.assertFalse(self.shown(hut, (1, 3, 1), OUTER, (2, ((1, 3, 1), (6, 3, 1)), ((inner, 1), (outer, 1)))))
        self.assertFalse(self.shown(hut, MIDST, (1, 3, 1), (1, (MIDST, (1, 3, 1)), ((outer, 1),))))
        self.assertTrue(self.shown(hut, MIDST, (1, 3, 1), (1, (MIDST, (1, 3, 1)), ((inner[::-1], 1),))))

    def test_bent_in_one_place(self):
        pairs = ((BOX, INNER, OUTER), (HUT, MIDST, OUTER), (HUT, MIDST, (1, 3, 1)), (BOX, OUTER, OUTER))
        for text, one, other in pairs:
            drawing = Drawing(text)
            told = cheapest(drawing, one, other)
            self.assertTrue(self.shown(drawing, one, other, told))
            for value in bends(told):
                with self.subTest(value):
                    self.shown(drawing, one, other, value)

    def test_drawn_ones_bent_in_one_place(self):
        for seed in range(3):
            for name, fences in kinds(seed):
                drawing = drawing_of(fences)
                one, other = random_spots(fences, seed + 30, 2, 5)
                for value in list(bends(cheapest(drawing, one, other)))[::7]:
                    with self.subTest((name, seed, value)):
                        self.shown(drawing, one, other, value)


if __name__ == "__main__":
    unittest.main()
