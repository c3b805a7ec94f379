"""Section 15: trees of rings."""

import itertools
import random
import unittest

from ringsorways import trees as module
from ringsorways.drawings import Drawing, led_over
from ringsorways.errors import BadSpots
from ringsorways.parting import ring_price
from ringsorways.spots import land_of, way_between
from ringsorways.tightest import shows_tightest, tightest
from ringsorways.trees import shows_tree, tree
from tests.drawn import (box, boxes, crossing, crowded, drawing_of, great, hung, in_other_sequence, kinds, net,
                         priced_anew, random_spots, standing)
from tests.judge import bends, chain_between, judge_tree
from tests.ruler import all_rings, is_true_parting, mirrored, slow_ring_price, turned
from tests.support import ANY_VALUES, WRONG_POINTS, Exact

HALVES = "drawing\nfence a 0 0 4 0 2\nfence b 4 0 4 4 2\nfence c 4 4 0 4 2\nfence d 0 4 0 0 2\nfence e 2 0 2 4 1"
SPOTS = ((1, 1, 1), (3, 1, 1), (9, 9, 1))
SAME = ((1, 1, 1), (1, 2, 1))
# Boxes within one another that cost the same.
RINGS = drawing_of(priced_anew(boxes(3), 1, 1))
NESTED = ((0, 0, 1), (4, 0, 1), (6, 0, 1), (20, 0, 1))


def sets_of_spots(fences, seed, many, far=7):
    """Some sets of two to six spots: of many lands, of few, with several of one land."""
    dice = random.Random(seed)
    spots = random_spots(fences, seed, 30, far)
    drawing = drawing_of(fences)
    homes = [land_of(drawing, spot) for spot in spots]
    one_each = [spots[homes.index(home)] for home in sorted(set(homes))]
    told = []
    for _ in range(many):
        row = dice.sample(one_each, min(len(one_each), dice.randint(2, 6))) if dice.random() < 0.6 else []
        while len(row) < 2 or (len(row) < 6 and dice.random() < 0.3):
            spot = dice.choice(spots)
            if spot not in row:
                row.append(spot)
        dice.shuffle(row)
        told.append(tuple(row))
    return told


class TestExamples(Exact):
    def test_all(self):
        halves = Drawing(HALVES)
        told = tree(halves, SPOTS)
        self.tells([len(told), sorted([row[2][1] for row in told]), shows_tree(halves, SPOTS, told),
                    shows_tree(halves, SPOTS, told[:1])], [2, [7, 7], True, False])
        self.tells([tree(halves, SAME)[0][:2], tree(halves, SAME)[0][2][0],
                    shows_tree(halves, SAME, ((0, 1, ("way", SAME)),))], [(0, 1), "way", True])


class TestInterface(Exact):
    def test_the_functions_are_defined_in_the_file(self):
        for function in (tree, shows_tree):
            self.assertEqual(function.__module__, "ringsorways.trees")
            self.assertIs(getattr(module, function.__name__), function)

    def test_arguments_by_name_and_equal_calls(self):
        halves = Drawing(HALVES)
        told = tree(spots=SPOTS, drawing=halves)
        self.tells(told, tree(Drawing(HALVES), SPOTS))
        self.tells(shows_tree(value=told, spots=SPOTS, drawing=halves), True)
        self.tells([halves.text, halves.pieces], [HALVES, Drawing(HALVES).pieces])


class TestErrors(Exact):
    def test_what_is_no_row_of_spots(self):
        halves = Drawing(HALVES)
        many = tuple((20 + k, 0, 1) for k in range(8))
        wrong = list(ANY_VALUES) + [
            (), many[:1], many[:7], many, list(SPOTS), [SPOTS[0], SPOTS[1]], SPOTS + SPOTS[:1], (SPOTS[0],) * 2,
            (SPOTS[0], SPOTS[1], SPOTS[0]), many[:6] + many[:1], {SPOTS[0]: 1, SPOTS[1]: 2}, SPOTS[0],
            (SPOTS[0], (0, 0, 1)), ((2, 3, 1), SPOTS[1]), (SPOTS[0], (4, 2, 1), SPOTS[2]), SPOTS[:2] + ((2001, 0, 1),),
            SPOTS[:2] + ((1, 1, 1001),), (SPOTS[0], list(SPOTS[1])), ((1, 1), (3, 1)), (0, 1), ("ab", "cd"),
        ]
        wrong += [(SPOTS[0], value) for value in WRONG_POINTS] + [(value, SPOTS[0]) for value in WRONG_POINTS]
        for value in wrong:
            with self.subTest(value):
                self.refuses_the_very(BadSpots, value, tree, halves, value)
                self.refuses_the_very(BadSpots, value, shows_tree, halves, value, ())
                self.refuses_the_very(BadSpots, value, shows_tree, halves, value, None)

    def test_two_and_six_are_right(self):
        halves = Drawing(HALVES)
        many = tuple((20 + k, 0, 1) for k in range(6))
        for size in range(2, 7):
            self.tells(len(tree(halves, many[:size])), size - 1)
            self.tells(shows_tree(halves, many[:size], tree(halves, many[:size])), True)


class Trees(Exact):
    def holds(self, drawing, spots):
        """What is told is right by the tests' own sums, and tells all pairs; returned are the words of its rows."""
        told = tree(drawing, spots)
        self.assertTrue(judge_tree(drawing, spots, told), told)
        self.tells(shows_tree(drawing, spots, told), True)
        for j in range(len(spots)):
            for i in range(j):
                chain = chain_between(told, i, j)
                prices = [row[2][1] for row in chain if row[2][0] == "ring"]
                pair = tightest(drawing, spots[i], spots[j])
                self.tells(pair[1] if pair[0] == "ring" else None, min(prices, default=None))
                if prices:
                    # The least ring of the chain is one of theirs: with the ways of the two it is shown so.
                    ring = next(row[2][2] for row in chain if row[2][0] == "ring" and row[2][1] == min(prices))
                    self.tells(shows_tightest(drawing, spots[i], spots[j], pair[:2] + (ring,) + pair[3:]), True)
                else:
                    self.assertTrue(way_between(drawing, spots[i], spots[j]))
        return [row[2][0] for row in told]


class TestDrawn(Trees):
    def test_every_kind(self):
        counts = {"ring": 0, "way": 0}
        for seed in range(7):
            for name, fences in kinds(seed):
                drawing = drawing_of(fences)
                for spots in sets_of_spots(fences, seed, 3):
                    with self.subTest((name, seed, spots)):
                        for word in self.holds(drawing, spots):
                            counts[word] += 1
        self.assertGreater(min(counts.values()), 100)

    def test_great_ones(self):
        for name, fences, far in great(4):
            for spots in sets_of_spots(fences, 2, 2, far):
                with self.subTest((name, spots)):
                    self.holds(drawing_of(fences), spots)

    def test_nets_and_many_lands(self):
        for seed in range(6):
            for rows in (net(3, 3), standing(net(2, 3) + box(4, 7)), crossing(seed, 8, 12), crowded(seed, 16, 4)):
                fences = priced_anew(rows, seed, 5)
                for spots in sets_of_spots(fences, seed + 3, 2, 9):
                    with self.subTest((seed, len(rows), spots)):
                        self.holds(drawing_of(fences), spots)

    def test_prices_that_are_all_alike(self):
        # Many rings cost the same, so that those of unlike pairs cross if they are told one by one.
        for seed in range(8):
            for rows in (net(3, 3), net(4, 2), crowded(seed, 14, 4), crossing(seed, 7, 9)):
                fences = priced_anew(rows, 1, 1)
                for spots in sets_of_spots(fences, seed, 2, 9):
                    with self.subTest((seed, spots)):
                        self.holds(drawing_of(fences), spots)

    def test_boxes_within_and_beside_one_another(self):
        for dear in (1, 9):
            fences = priced_anew(standing(boxes(3) + box(20, 24) + box(21, 23) + box(30, 34)), dear, dear)
            for spots in (((0, 0, 1), (4, 0, 1), (6, 0, 1), (22, 22, 1), (41, 41, 2), (32, 32, 1)),
                          ((0, 0, 1), (22, 22, 1), (32, 32, 1), (50, 0, 1)), ((0, 0, 1), (6, 0, 1), (22, 22, 1)),
                          ((0, 0, 1), (1, 0, 1), (6, 0, 1), (0, 6, 1), (50, 0, 1), (60, 0, 1))):
                self.holds(drawing_of(fences), spots)

    def test_cheapest_rings_that_cross(self):
        # A court about a dear hut, cut in two by cheap fences: the ring about the hut and the lower half of the
        # court is a cheapest one between the hut and the upper half, and the other way about; both cross.
        rows = [(row, 1) for row in box(-9, 9)] + [(row, 2) for row in box(-3, 3)]
        rows += [(((-9, 0), (-3, 0)), 1), (((3, 0), (9, 0)), 1)]
        fences = [(name, a, b, price) for (name, a, b, _), (_, price) in zip(priced_anew([row for row, _ in rows], 1),
                                                                             rows)]
        drawing = drawing_of(fences)
        hut, upper, lower, out = (0, 0, 1), (0, 6, 1), (0, -6, 1), (20, 0, 1)
        self.tells([tightest(drawing, hut, spot)[1] for spot in (upper, lower, out)], [11, 11, 6])
        for spots in itertools.permutations((hut, upper, lower, out)):
            with self.subTest(spots):
                self.tells(self.holds(drawing, spots), ["ring"] * 3)
        for more in ((1, 6, 1), (1, 0, 1), (21, 0, 1)):
            for spots in list(itertools.permutations((hut, upper, lower, out, more)))[::11]:
                self.tells(sorted(self.holds(drawing, spots)), ["ring"] * 3 + ["way"])

    def test_without_rings(self):
        for rows in ([], [((0, 0), (4, 2))], hung(5, 6, 4)[:3], crowded(1003, 5, 12)):
            fences = priced_anew(rows, 1)
            drawing = drawing_of(fences)
            spots = tuple(random_spots(fences, 3, 6, 9))
            if len({land_of(drawing, spot) for spot in spots}) == 1:
                self.tells(self.holds(drawing, spots), ["way"] * 5)
        self.tells(self.holds(Drawing("drawing"), ((0, 0, 1), (1, 1, 1))), ["way"])

    def test_several_of_one_land(self):
        halves = Drawing(HALVES)
        for spots in (((1, 1, 1), (1, 2, 1), (3, 1, 1), (3, 3, 1), (9, 9, 1), (9, 8, 1)),
                      ((9, 9, 1), (1, 1, 1), (9, 8, 1), (1, 2, 1)), ((1, 1, 1), (1, 2, 1), (1, 3, 1)),
                      ((9, 9, 1), (3, 1, 1), (3, 2, 1), (3, 3, 1), (7, 2, 2))):
            words = self.holds(halves, spots)
            self.tells(words.count("ring"), len({land_of(halves, spot) for spot in spots}) - 1)

    def test_turned_mirrored_and_in_another_sequence(self):
        for seed in range(3):
            for name, fences in kinds(seed):
                drawing = drawing_of(fences)
                for spots in sets_of_spots(fences, seed + 9, 1):
                    prices = sorted([row[2][1] for row in tree(drawing, spots) if row[2][0] == "ring"])
                    for led, moved in ((drawing_of(in_other_sequence(fences, seed)), spots),
                                       (led_over(drawing, "turned"), tuple(map(turned, spots))),
                                       (led_over(drawing, "mirrored"), tuple(map(mirrored, spots))),
                                       (drawing, spots[::-1])):
                        told = tree(led, moved)
                        self.tells(shows_tree(led, moved, told), True)
                        self.tells(sorted([row[2][1] for row in told if row[2][0] == "ring"]), prices)


class TestShows(Exact):
    def shown(self, drawing, spots, value):
        """It tells what the tests' own judgement tells."""
        told = judge_tree(drawing, spots, value)
        self.tells(shows_tree(drawing, spots, value), told)
        return told

    def test_values_of_any_kind(self):
        halves = Drawing(HALVES)
        told = tree(halves, SPOTS)
        for value in ANY_VALUES + ((None, None), (told[0], None), (told[0], ()), (told[0], told[1][:2]), list(told),
                                   (list(told[0]), told[1]), [told[0], told[1]], told[0], (told,), ("way", SAME),
                                   (told[0][:2] + (list(told[0][2]),), told[1]), ((0, 1), (1, 2)),
                                   ((0, 1, None), (1, 2, None)), ((0, 1, ()), (1, 2, ())), "ab",
                                   {0: told[0], 1: told[1]}):
            self.tells(shows_tree(halves, SPOTS, value), False)

    def test_in_another_sequence(self):
        for spots in (NESTED, NESTED[::-1], (NESTED[1], NESTED[3], NESTED[0], NESTED[2])):
            told = tree(RINGS, spots)
            for at in range(3):
                self.assertTrue(self.shown(RINGS, spots, told[at:] + told[:at]))
                self.assertTrue(self.shown(RINGS, spots, told[::-1][at:] + told[::-1][:at]))
                self.assertFalse(self.shown(RINGS, spots, told[:at] + told[at + 1:]))
                self.assertFalse(self.shown(RINGS, spots, told[:at] + (told[at - 1],) + told[at + 1:]))
                self.assertFalse(self.shown(RINGS, spots, told + (told[at],)))
                i, j, row = told[at]
                # Ends exchanged: told so, or with the ways turned about, too.
                self.assertFalse(self.shown(RINGS, spots, told[:at] + ((j, i, row),) + told[at + 1:]))
                back = row[:3] + (tuple((points[::-1], many) for points, many in row[3]),)
                self.assertFalse(self.shown(RINGS, spots, told[:at] + ((j, i, back),) + told[at + 1:]))
                self.assertFalse(self.shown(RINGS, spots, told[:at] + ((i, j, back),) + told[at + 1:]))

    def test_the_ring_of_another_row(self):
        told = tree(RINGS, NESTED)
        for at in range(3):
            for other in range(3):
                i, j, row = told[at]
                ring, ways = told[other][2][2], told[other][2][3]
                bent = told[:at] + ((i, j, row[:2] + (ring,) + row[3:]),) + told[at + 1:]
                self.tells(self.shown(RINGS, NESTED, bent), at == other)
                # The ways of another pair; and all of what is told of another pair.
                bent = told[:at] + ((i, j, row[:3] + (ways,)),) + told[at + 1:]
                self.tells(self.shown(RINGS, NESTED, bent), at == other)
                bent = told[:at] + ((i, j, told[other][2]),) + told[at + 1:]
                self.tells(self.shown(RINGS, NESTED, bent), at == other)

    def test_right_rings_of_other_pairs(self):
        # Every choice of rows over what tightest tells of each pair: right just where the rings part the rows so.
        pairs = [(i, j, tightest(RINGS, NESTED[i], NESTED[j])) for j in range(4) for i in range(j)]
        right = 0
        for a in pairs:
            for b in pairs:
                for c in pairs:
                    right += self.shown(RINGS, NESTED, (a, b, c))
        self.assertGreater(right, 0)
        self.assertLess(right, 60)

    def test_a_cheapest_ring_that_does_not_part_the_rows_so(self):
        # A hut and a tent beside one another, and a wall around both that costs as much as the hut.
        rows = standing(box(-8, -6) + [((2, 2), (6, 2)), ((6, 2), (2, 6)), ((2, 6), (2, 2))] + box(-10, 10))
        drawing = drawing_of(priced_anew(rows, 1, 1))
        hut, tent, out = spots = (-7, -7, 1), (3, 3, 1), (20, 0, 1)
        pairs = {(i, j): tightest(drawing, spots[i], spots[j]) for j in range(3) for i in range(j)}
        self.tells([pairs[pair][1] for pair in ((0, 1), (0, 2), (1, 2))], [3, 4, 3])
        tips = [[(low, low, 1), (low, high, 1), (high, high, 1), (high, low, 1)] for low, high in ((-8, -6), (-10, 10))]
        small, wall = [tuple(map(drawing.corners.index, row)) for row in tips]
        around = {ring: (0, 2, pairs[0, 2][:2] + (ring,) + pairs[0, 2][3:]) for ring in (small, wall)}
        for ring, row in around.items():
            self.tells(shows_tightest(drawing, hut, out, row[2]), True)
            for pair in ((1, 2), (0, 1)):
                # With the tent at the hut's end the wall has both inside, with the tent outside it has not.
                right = (ring == small) == (pair == (1, 2))
                self.tells(self.shown(drawing, spots, (row, pair + (pairs[pair],))), right)

    def test_cheapest_rings_of_boxes_within_one_another(self):
        # From the midst to outside all three boxes are cheapest ones.
        told = tree(RINGS, NESTED)
        prices = [ring_price(RINGS, row[2][2]) for row in told]
        self.tells(prices, [4, 4, 4])
        rings = [row[2][2] for row in told]
        for ring in rings:
            i, j, pair = 0, 3, tightest(RINGS, NESTED[0], NESTED[3])
            row = (i, j, pair[:2] + (ring,) + pair[3:])
            self.tells(shows_tightest(RINGS, NESTED[0], NESTED[3], row[2]), True)
            for others in ((told[0], told[1]), (told[0], told[2]), (told[1], told[2])):
                self.shown(RINGS, NESTED, others + (row,))

    def test_every_ring_of_the_same_price(self):
        right = 0
        for seed in range(5):
            for rows in (net(2, 3), net(3, 2), crowded(seed, 10, 3), boxes(3)):
                drawing = drawing_of(priced_anew(rows, 1, 1))
                if len(drawing.pieces) > 34:
                    continue
                every = all_rings(drawing)
                for spots in sets_of_spots(drawing.fences, seed + 40, 1, 8):
                    told = tree(drawing, spots)
                    for at, (i, j, row) in enumerate(told):
                        if row[0] == "ring":
                            alike = [ring for ring in every if slow_ring_price(drawing, ring) == row[1]
                                     and is_true_parting(drawing, ring, spots[i], spots[j])]
                            for ring in alike[:6]:
                                bent = told[:at] + ((i, j, row[:2] + (ring,) + row[3:]),) + told[at + 1:]
                                right += self.shown(drawing, spots, bent)
        self.assertGreater(right, 20)

    def test_rows_that_join_otherwise(self):
        # In one land any rows that join all spots are right.
        spots = ((9, 9, 1), (8, 9, 1), (8, 8, 1), (9, 8, 1))
        halves = Drawing(HALVES)
        rows = {(i, j): (i, j, ("way", (spots[i], spots[j]))) for j in range(4) for i in range(j)}
        for chosen, right in ((((0, 1), (1, 2), (2, 3)), True), (((0, 1), (0, 2), (0, 3)), True),
                              (((2, 3), (0, 3), (1, 3)), True), (((0, 1), (1, 2), (0, 2)), False),
                              (((0, 1), (2, 3), (2, 3)), False), (((0, 1), (2, 3)), False),
                              (((0, 1), (1, 2), (2, 3), (0, 3)), False)):
            self.tells(self.shown(halves, spots, tuple(rows[link] for link in chosen)), right)

    def test_numbers_that_are_none(self):
        halves = Drawing(HALVES)
        way = ("way", SAME)
        for row, right in (((0, 1, way), True), ((1, 0, ("way", SAME[::-1])), False), ((0, 2, way), False),
                           ((-2, 1, way), False), ((-2, -1, way), False), ((False, True, way), False),
                           ((0, True, way), False), ((False, 1, way), False), (("0", "1", way), False),
                           ((0, 0, ("way", SAME[:1])), False), ((1, 1, ("way", SAME[1:])), False),
                           ((None, 1, way), False), ((0, 1, way, 0), False), ((0, 1), False),
                           ((0, 1, ("way", SAME[::-1])), False), ((0, 10 ** 40, way), False)):
            with self.subTest(row):
                self.tells(self.shown(halves, SAME, (row,)), right)

    def test_bent_in_one_place(self):
        halves = Drawing(HALVES)
        for spots in (SPOTS, SAME, SPOTS + SAME[1:]):
            for value in list(bends(tree(halves, spots)))[::2]:
                with self.subTest((spots, value)):
                    self.shown(halves, spots, value)
        for seed in range(2):
            for name, fences in kinds(seed):
                drawing = drawing_of(fences)
                for spots in sets_of_spots(fences, seed + 60, 1):
                    for value in list(bends(tree(drawing, spots)))[::37]:
                        with self.subTest((name, seed, value)):
                            self.shown(drawing, spots, value)


if __name__ == "__main__":
    unittest.main()
