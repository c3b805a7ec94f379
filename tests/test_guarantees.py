"""Section 3: each guarantee, over the whole program."""

import random
import unittest
from fractions import Fraction

from ringsorways.cheapest import cheapest, cost_without, shows_cheapest
from ringsorways.desk import Desk
from ringsorways.drawings import Drawing, led_over, without
from ringsorways.field import Field
from ringsorways.hues import shows_two_hues, two_hues
from ringsorways.journals import journal, read_journal
from ringsorways.lands import area, around, hanging, lands, sides
from ringsorways.led import moments, parted_when, swept
from ringsorways.needed import needed, shows_needed
from ringsorways.overlay import both, overlay
from ringsorways.parting import parting, ring_has, ring_price, shows_parting, way_price
from ringsorways.rounds import nexts, rounds
from ringsorways.spots import land_of, way_between
from ringsorways.tightest import shows_tightest, tightest
from ringsorways.trees import shows_tree, tree
from tests.drawn import box, drawing_of, in_other_sequence, kinds, net, priced_anew, random_spots, spots_beside
from tests.leading import right_leads
from tests.plain_field import PlainField, some_deed, some_field
from tests.ruler import (Strips, all_rings, is_true_parting, mirrored, odd_crossings, slow_ring_price, turned)
from tests.support import Exact, place


def drawn(seeds, many=4, far=6):
    """(fences, drawing, pairs of spots) for small drawings of every kind."""
    for seed in seeds:
        for name, fences in kinds(seed):
            spots = random_spots(fences, seed + 33, many, far)
            yield fences, drawing_of(fences), [(a, b) for a in spots for b in spots if a < b] + [(spots[0], spots[0])]


def field_of(drawing, spots):
    """A field with this drawing and these marks."""
    field = Field()
    for spot in spots:
        field.mark(spot)
    for line in drawing.text.split("\n")[1:]:
        field.put(line)
    return field


class TestGuarantees(Exact):
    def test_a_a_way_or_a_ring(self):
        words = {"way": 0, "ring": 0}
        for fences, drawing, pairs in drawn(range(5)):
            every = all_rings(drawing) if len(drawing.pieces) < 22 else []
            for one, other in pairs:
                word, told = parting(drawing, one, other)
                words[word] += 1
                way = way_between(drawing, one, other)
                self.tells(way is not None, word == "way")
                self.tells(land_of(drawing, one) == land_of(drawing, other), word == "way")
                self.tells(tightest(drawing, one, other)[0], word)
                self.tells(cheapest(drawing, one, other)[0] == 0, word == "way")
                field = field_of(drawing, (one, other))
                self.tells([field.apart(0, 1)[0], Desk(journal(field)).say("apart 1 0")], [word, word])
                for name in [fence[0] for fence in fences[:3]]:
                    self.tells(needed(drawing, one, other, name)[0] == "joined", word == "way")
                parted = [ring for ring in every if is_true_parting(drawing, ring, one, other)]
                self.tells(bool(parted) or not every, word == "ring" or not every)
                for ring in every[:12]:
                    self.tells(shows_parting(drawing, one, other, ("ring", ring)), ring in parted)
                # What is shown of the one word is never shown of the other one.
                self.tells([shows_parting(drawing, one, other, (each, told)) for each in words],
                           [each == word for each in words])
        self.assertGreater(min(words.values()), 40)

    def test_b_the_cheapest_way(self):
        for fences, drawing, pairs in drawn(range(4, 8)):
            strips = Strips(fences, drawing.corners)
            for one, other in pairs:
                cost, way, rings = cheapest(drawing, one, other)
                self.tells([cost, way_price(drawing, way), sum(many for _, many in rings)], [cost] * 3)
                self.tells(cost, strips.cost(one, other) if fences else 0)
                # Each crossing way costs at least as much; those of the cheapest ring are some.
                told = tightest(drawing, one, other)
                for points, _ in told[3] if told[0] == "ring" else ((told[1], 1),):
                    self.assertGreaterEqual(way_price(drawing, points), cost)
                for more in (cost - 1, cost + 1):
                    self.tells(shows_cheapest(drawing, one, other, (more, way, rings)), False)
                for name in [fence[0] for fence in fences[:3]]:
                    self.assertGreaterEqual(cost_without(drawing, one, other, name), cost)

    def test_c_the_cheapest_ring(self):
        for fences, drawing, pairs in drawn(range(8, 12)):
            for one, other in pairs:
                told = tightest(drawing, one, other)
                if told[0] == "ring":
                    _, price, ring, ways = told
                    self.tells([price, sum(many for _, many in ways)], [ring_price(drawing, ring)] * 2)
                    self.tells(ring_has(drawing, ring, one) != ring_has(drawing, ring, other), True)
                    # Each ring that parts them costs at least as much; those that bar the cheapest way are some.
                    for other_ring, _ in cheapest(drawing, one, other)[2]:
                        self.assertGreaterEqual(ring_price(drawing, other_ring), price)
                    self.assertGreaterEqual(ring_price(drawing, parting(drawing, one, other)[1]), price)

    def test_d_lands(self):
        for fences, drawing, pairs in drawn(range(12, 16)):
            rows, told = rounds(drawing), lands(drawing)
            many = len(told)
            self.tells(len(drawing.corners) - len(drawing.pieces) + many, 1 + hanging(drawing))
            self.tells(sorted(half for row in rows for half in row), list(range(2 * len(drawing.pieces))))
            self.tells(all(nexts(drawing)[row[k - 1]] == row[k] for row in rows for k in range(len(row))), True)
            of_round = {number: land for land, (rim, islands) in enumerate(told)
                        for number in islands + (() if rim is None else (rim,))}
            self.tells(len(of_round), len(rows))
            for number, row in enumerate(rows):
                for half in row:
                    self.tells(sides(drawing, half // 2)[half % 2], of_round[number])
            outlines = [[drawing.corners[(drawing.pieces[half // 2][1:])[half % 2]] for half in rows[rim]]
                        for rim, _ in told[1:]]
            for spot in spots_beside(fences, drawing.corners)[:12] + [pair[0] for pair in pairs]:
                # The spot lies in its land's rim, and in just those of the lands around it.
                home = land_of(drawing, spot)
                within = [land for land in range(1, many) if odd_crossings(outlines[land - 1], spot)]
                self.tells(within, sorted(around(drawing, home) + ((home,) if home else ())))
            puts = ["put " + line for line in drawing.text.split("\n")[1:]]
            self.tells(Desk("\n".join(["field"] + puts)).say("lands"), str(many))
            total = sum((Fraction(*area(drawing, land)) for land in range(1, many)), Fraction(0))
            outer = sum((self.area(drawing, rows[number]) for number in told[0][1]), Fraction(0))
            self.tells(total, -outer)
            self.tells(both(drawing, Drawing("drawing")), tuple((land, 0) for land in range(many)))
            hues = two_hues(drawing)
            self.assertTrue(hues[0] == "odd" or len(hues[1]) == many)

    def area(self, drawing, row):
        total = Fraction(0)
        for half in row:
            ends = drawing.pieces[half // 2][1:]
            (x, y), (u, v) = [place(drawing.corners[ends[(half + k) % 2]]) for k in (0, 1)]
            total += x * v - u * y
        return total / 2

    def test_e_evidence(self):
        for fences, drawing, pairs in drawn(range(16, 19), 3):
            told = two_hues(drawing)
            self.tells(shows_two_hues(drawing, told), True)
            self.tells(shows_two_hues(drawing, ({"odd": "hues", "hues": "odd"}[told[0]], told[1])), False)
            for one, other in pairs:
                for tell, show in ((parting, shows_parting), (cheapest, shows_cheapest), (tightest, shows_tightest)):
                    told = tell(drawing, one, other)
                    self.tells(show(drawing, one, other, told), True)
                    if told[0] in ("way", "ring"):
                        swapped = ({"way": "ring", "ring": "way"}[told[0]],) + told[1:]
                        self.tells(show(drawing, one, other, swapped), False)
                for name in [fence[0] for fence in fences[:3]]:
                    told = needed(drawing, one, other, name)
                    for word in ("joined", "needed", "not"):
                        self.tells(shows_needed(drawing, one, other, name, (word, told[1])), word == told[0])
                if one != other:
                    self.tells(shows_tree(drawing, (one, other), tree(drawing, (one, other))), True)
            spots = tuple(sorted({spot for pair in pairs for spot in pair}))
            self.tells(shows_tree(drawing, spots, tree(drawing, spots)), True)

    def test_f_deeds(self):
        for seed in range(6):
            dice, plain, field = random.Random(seed + 9), PlainField(), Field()
            for _ in range(60):
                deed = some_deed(dice, plain)
                if plain.act(deed) is None:
                    getattr(field, deed[0])(*deed[1:])
                before = journal(field), field.undone

                def look(held):
                    for _ in range(6):
                        more = some_deed(dice, plain)
                        try:
                            getattr(held, more[0])(*more[1:])
                        except ValueError:
                            pass
                    return held.done
                self.assertIs(type(field.tried(look)), int)
                self.tells((journal(field), field.undone), before)
            self.tells([journal(field), field.drawing.text], [plain.journal(), plain.text()])
            for many in range(field.done, 0, -1):
                field.undo()
                self.tells(field.drawing.text, plain.text(many - 1))
            for many in range(len(plain.stood)):
                field.redo()
                self.tells(field.drawing.text, plain.text(many + 1))
            self.tells(journal(field), plain.journal())

    def test_g_there_and_back(self):
        for seed in range(3):
            for name, fences in kinds(seed):
                drawing = drawing_of(fences)
                self.tells(Drawing(drawing.text) == drawing, True)
                four = drawing
                for _ in range(4):
                    four = led_over(four, "turned")
                self.tells([four.text, led_over(led_over(drawing, "mirrored"), "mirrored").text], [drawing.text] * 2)
                spots = random_spots(fences, seed + 7, 4, 6)
                known = self.whole(drawing, spots)
                other = drawing_of(in_other_sequence(fences, seed))
                self.tells(self.whole(other, spots), known)
                self.tells(self.whole(led_over(drawing, "turned"), list(map(turned, spots))), known)
                self.tells(self.whole(led_over(other, "mirrored"), list(map(mirrored, spots))), known)
        for seed in range(6):
            text = some_field(seed, 50).journal()
            self.tells(journal(read_journal(text)), text)
            self.tells(journal(Desk(text).field), text)

    def whole(self, drawing, spots):
        """Words, prices, counts and areas, which do not change with the sequence of fences, or turned."""
        told = [len(drawing), len(drawing.corners), len(drawing.pieces), len(rounds(drawing)), len(lands(drawing)),
                hanging(drawing), two_hues(drawing)[0]]
        told.append(sorted(area(drawing, land) for land in range(1, len(lands(drawing)))))
        told.append(sorted(len(around(drawing, land)) for land in range(len(lands(drawing)))))
        for one, other in zip(spots, spots[1:]):
            ring = tightest(drawing, one, other)
            told += [parting(drawing, one, other)[0], cheapest(drawing, one, other)[0], ring[0]]
            told.append(ring[1] if ring[0] == "ring" else 0)
            words = [needed(drawing, one, other, fence[0])[0] for fence in drawing.fences]
            told.append(sorted(words))
            told.append(sorted(cost_without(drawing, one, other, fence[0]) for fence in drawing.fences))
        return told + [sorted(row[2][1] for row in tree(drawing, tuple(spots)) if row[2][0] == "ring")]

    def test_h_all_rings_and_all_ways(self):
        looked = 0
        for fences, drawing, pairs in drawn(range(19, 31), 4):
            if len(drawing.pieces) > 20:
                continue
            every = all_rings(drawing)
            for one, other in pairs:
                parted = [slow_ring_price(drawing, ring) for ring in every
                          if is_true_parting(drawing, ring, one, other)]
                told = tightest(drawing, one, other)
                self.tells(min(parted, default=None), told[1] if told[0] == "ring" else None)
                looked += bool(parted)
                for fence in fences[:3]:
                    fewer = without(drawing, fence[0])
                    word = needed(drawing, one, other, fence[0])[0]
                    left = any(is_true_parting(fewer, ring, one, other) for ring in all_rings(fewer))
                    self.tells(word, "joined" if not parted else "not" if left else "needed")
        self.assertGreater(looked, 30)

    def test_h_all_moments(self):
        looked = 0
        for seed in range(3):
            for name, fences in kinds(seed):
                for lead in right_leads(fences, seed + 13, 2, 6):
                    drawing = drawing_of(fences)
                    spots = [spot for spot in random_spots(fences, seed + 4, 6, 5) if lead.is_spot(spot)][:2]
                    if len(spots) < 2 or len(fences) > 12:
                        continue
                    lead_of = (drawing, lead.name, lead.end, lead.point)
                    told = parted_when(*lead_of, *spots)
                    marks = {Fraction(*time) for time in moments(*lead_of)}
                    marks |= {Fraction(*time) for spot in spots for time in swept(*lead_of, spot)}
                    # At many times, one by one, each stretch tells what there is.
                    for k in range(1, 12):
                        time = Fraction(2 * k - 1, 23)
                        if time not in marks:
                            within = [row[2] for row in told if Fraction(*row[0]) < time < Fraction(*row[1])]
                            self.tells(within, [lead.is_parted(time, *spots)])
                            looked += 1
        self.assertGreater(looked, 200)


class TestSection13(Exact):
    def test_two_drawings_leave_ways_that_both_together_do_not(self):
        one = drawing_of([("a", (0, 0), (4, 0), 1), ("b", (4, 0), (4, 4), 1)])
        other = drawing_of([("c", (4, 4), (0, 4), 1), ("d", (0, 4), (0, 0), 1)])
        spots = (1, 1, 1), (9, 9, 1)
        words = [parting(drawing, *spots)[0] for drawing in (one, other, overlay(one, other))]
        self.tells(words, ["way", "way", "ring"])

    def test_great_ones_over_one_another(self):
        wide = drawing_of(priced_anew(net(9, 9), 1))
        rows = box(1, 29) + box(4, 26) + box(7, 23) + box(10, 20) + box(31, 40)
        inner = drawing_of([("z" + name, a, b, price) for name, a, b, price in priced_anew(rows, 2)])
        together = overlay(wide, inner)
        rows = both(wide, inner)
        self.tells(len(rows), len(lands(together)))
        for spot in random_spots(together.fences, 3, 30, 32):
            self.tells(rows[land_of(together, spot)], (land_of(wide, spot), land_of(inner, spot)))


if __name__ == "__main__":
    unittest.main()
