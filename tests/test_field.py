"""Section 16: a field."""

import inspect
import random
import unittest

from ringsorways import field as module
from ringsorways.cheapest import cheapest
from ringsorways.drawings import Drawing
from ringsorways.errors import (Along, BadEnd, BadFence, BadMark, BadNumber, BadPoint, BadPrice, BadSpot, Covered,
                                FenceError, Leans, NoName, NothingToRedo, NothingToUndo, NoTrial, Same)
from ringsorways.field import Field
from ringsorways.journals import journal, read_journal
from ringsorways.parting import parting, shows_parting
from tests.judge import judge_parting
from tests.plain_field import PlainField, some_deed, some_field
from tests.ruler import Strips
from tests.support import ANY_VALUES, WRONG_POINTS, Exact

ROWS = ("fence a 0 0 4 0 2", "fence b 4 0 2 5 3", "fence c 2 5 0 0 7")
METHODS = {"put": ["line"], "take": ["name"], "price": ["name", "number"], "lead": ["name", "end", "point"],
           "mark": ["spot"], "strike": ["number"], "elder": ["number"], "apart": ["i", "j"], "cost": ["i", "j"],
           "undo": [], "redo": [], "trial": [], "keep": [], "tried": ["look", "keep"], "copy": []}


def example():
    """The field of section 16, ahead of lead."""
    field = Field()
    field.mark((2, 1, 1))
    field.mark((9, 1, 1))
    for row in ROWS:
        field.put(row)
    return field


class Fields(Exact):
    def act(self, field, deed):
        """Do it, or find it refused; returned is (error, value), None if it was done."""
        try:
            self.tells(getattr(field, deed[0])(*deed[1:]), None)
        except FenceError as wrong:
            return type(wrong), wrong.value
        return None

    def alike(self, field, plain):
        """The field tells what the tests' own one does."""
        text = plain.text()
        self.tells([field.drawing.text, field.marks, field.done], [text, plain.marks(), len(plain.stood)])
        self.tells(journal(field), plain.journal())

    def wholly_alike(self, field, plain):
        """As a whole, with all that was, and all that can be taken back and done again."""
        self.alike(field, plain)
        anew = Drawing(field.drawing.text)
        self.assertIs(type(field.drawing), Drawing)
        self.tells([field.drawing.fences, field.drawing.corners, field.drawing.pieces],
                   [anew.fences, anew.corners, anew.pieces])
        for many in range(len(plain.stood) + 1):
            self.tells(field.elder(many).text, plain.text(many))
        other, twin = field.copy(), PlainField()
        twin.restore(plain.saved())
        for word in ("redo", "undo"):
            while True:
                due = twin.act((word,))
                self.tells(self.act(other, (word,)), due)
                self.alike(other, twin)
                if due is not None:
                    break

    def step(self, field, plain, deed):
        """Both do it, or both refuse it."""
        told = self.act(field, deed)
        self.tells(told, plain.act(deed))
        self.alike(field, plain)
        return told


class TestExamples(Fields):
    def test_all(self):
        field = Field()
        field.mark((2, 1, 1))
        field.mark((9, 1, 1))
        self.tells([field.put(line) for line in ROWS], [None, None, None])
        self.tells([field.apart(0, 1)[0], field.cost(0, 1), field.done, len(field.elder(4))], ["ring", 2, 5, 2])
        field.lead("b", 1, (3, 5, 1))
        self.tells([field.apart(0, 1)[0], field.drawing.text.split("\n")[2]], ["way", "fence b 4 0 3 5 3"])
        field.strike(5)
        self.tells([field.apart(0, 1)[0], field.done], ["ring", 5])


class TestInterface(Fields):
    def test_the_class_is_defined_in_the_file_with_all_its_methods(self):
        self.assertEqual(Field.__module__, "ringsorways.field")
        self.assertIs(module.Field, Field)
        for name, parameters in METHODS.items():
            with self.subTest(name):
                self.assertIn(name, vars(Field))
                told = inspect.signature(getattr(Field, name)).parameters
                self.assertEqual(list(told)[1:], parameters)
        keep = inspect.signature(Field.tried).parameters["keep"]
        self.assertIs(keep.default, False)
        self.assertEqual(keep.kind, inspect.Parameter.KEYWORD_ONLY)

    def test_a_new_one(self):
        field = Field()
        self.assertIs(type(field.drawing), Drawing)
        self.tells([field.drawing.text, field.marks, field.done], ["drawing", (), 0])
        self.assertEqual(set(vars(field)) & {"drawing", "marks", "done"}, {"drawing", "marks", "done"})
        self.tells(field.elder(0).text, "drawing")

    def test_arguments_by_name(self):
        field = example()
        self.tells([field.lead(point=(3, 5, 1), end=1, name="b"), field.price(number=9, name="a"),
                    field.mark(spot=(1, 1, 1)), field.put(line="fence d 7 7 8 8 1"), field.take(name="d")], [None] * 5)
        self.tells([field.strike(number=7), field.done], [None, 9])
        self.tells(field.elder(number=5).text, "\n".join(("drawing",) + ROWS))
        self.tells(field.apart(j=1, i=0)[0], "way")
        self.tells(field.cost(j=1, i=0), 0)
        self.tells(field.tried(look=lambda held: held.done, keep=True), field.done)

    def test_deeds_return_none(self):
        field = Field()
        told = [field.put(ROWS[0]), field.mark((9, 9, 1)), field.price("a", 5), field.lead("a", 0, (1, 1, 1)),
                field.undo(), field.redo(), field.strike(2), field.take("a")]
        self.tells(told, [None] * 8)
        with field.trial():
            self.tells(field.keep(), None)


class TestErrors(Fields):
    """Every error in the sequence in which it is listed, with the very value; what is refused changes nothing."""

    def refused(self, field, error, value, name, *arguments):
        before = journal(field), field.drawing.text, field.marks, field.done, list(field.undone)
        self.refuses(error, value, getattr(field, name), *arguments)
        self.tells((journal(field), field.drawing.text, field.marks, field.done, list(field.undone)), before)

    def test_put(self):
        field = example()
        for line in list(ANY_VALUES) + ["fence a 7 7 8 8 1", "fence d 1 0 9 0 1", "fence d 7 7 7 7 1",
                                        "put fence d 7 7 8 8 1", "fence d 7 7 8 8 1 ", "fence d 7 7 8 8 100",
                                        "fence d 7 7 8 8 1\n", ROWS[0]]:
            with self.subTest(line):
                self.refused(field, BadFence, line, "put", line)
        self.refused(field, Covered, (2, 1, 1), "put", "fence d 0 1 9 1 1")
        self.refused(field, Covered, (9, 1, 1), "put", "fence d 9 1 12 1 1")
        self.refused(field, Covered, (9, 1, 1), "put", "fence d 9 5 9 1 1")
        # The fence cannot stand, and would lie on a mark besides.
        self.refused(field, BadFence, "fence a 0 1 9 1 1", "put", "fence a 0 1 9 1 1")
        field.mark((9, 1, 1))
        field.mark((5, 1, 1))
        self.refused(field, Covered, (9, 1, 1), "put", "fence d 5 1 9 1 1")
        self.refused(field, Covered, (2, 1, 1), "put", "fence d 9 1 1 1 1")

    def test_put_the_41st(self):
        field = Field()
        for k in range(40):
            field.put(f"fence {chr(97 + k // 26)}{chr(97 + k % 26)} 0 {k} 9 {k} 1")
        self.refused(field, BadFence, "fence z 0 99 9 99 1", "put", "fence z 0 99 9 99 1")
        field.take("aa")
        self.tells(field.put("fence z 0 99 9 99 1"), None)

    def test_take_and_price(self):
        field = example()
        for name in [value for value in ANY_VALUES if value != "a"] + ["d", "A", "a ", ("a",), ["a"]]:
            with self.subTest(name):
                self.refused(field, NoName, name, "take", name)
                self.refused(field, NoName, name, "price", name, 5)
                self.refused(field, NoName, name, "price", name, 0)
        for number in [value for value in ANY_VALUES if type(value) is not int or not 1 <= value <= 99] + [100, -5, "5",
                                                                                                  (5,), [5]]:
            with self.subTest(number):
                self.refused(field, BadPrice, number, "price", "a", number)
        for number in (1, 99):
            field.price("a", number)
            self.tells(field.drawing.fences[0][3], number)

    def test_lead(self):
        field = example()
        for name in [value for value in ANY_VALUES if value != "a"] + ["d"]:
            self.refused(field, NoName, name, "lead", name, 7, None)
        for end in [value for value in ANY_VALUES if type(value) is not int or value not in (0, 1)] + [2, -1, "1"]:
            self.refused(field, BadEnd, end, "lead", "a", end, None)
        for point in list(WRONG_POINTS) + [(1, 1, 2), (1001, 0, 1), (0, -1001, 1), (1, 1), [1, 1, 1], (1, 1, True)]:
            for end in (0, 1):
                self.refused(field, BadPoint, point, "lead", "a", end, point)
        self.refused(field, Same, ((4, 0, 1), (4, 0, 1)), "lead", "a", 0, (4, 0, 1))
        self.refused(field, Same, ((0, 0, 1), (0, 0, 1)), "lead", "a", 1, (0, 0, 1))
        self.refused(field, Along, ("a", "b"), "lead", "a", 0, (2, 5, 1))
        self.refused(field, Along, ("b", "a"), "lead", "b", 1, (3, 0, 1))
        self.refused(field, Along, ("c", "a"), "lead", "c", 0, (1, 0, 1))
        self.refused(field, Covered, (2, 1, 1), "lead", "a", 1, (4, 2, 1))
        self.refused(field, Covered, (2, 1, 1), "lead", "a", 1, (2, 1, 1))
        self.refused(field, Covered, (9, 1, 1), "lead", "b", 0, (16, -3, 1))

    def test_lead_several_at_once(self):
        field = Field()
        for row in ("fence a 0 0 1 0 1", "fence b 3 0 4 0 1", "fence c 9 0 9 9 1", "fence d 6 0 7 0 1"):
            field.put(row)
        field.mark((5, 0, 1))
        field.mark((2, 0, 1))
        # Along with the first other fence, as they stand, the led one's name ahead; Along is ahead of Covered.
        self.refused(field, Along, ("c", "a"), "lead", "c", 1, (0, 0, 1))
        self.refused(field, Along, ("c", "b"), "lead", "c", 1, (2, 0, 1))
        self.refused(field, Along, ("c", "d"), "lead", "c", 1, (5, 0, 1))
        self.refused(field, Along, ("a", "b"), "lead", "a", 1, (9, 0, 1))
        self.refused(field, Along, ("d", "a"), "lead", "d", 0, (-1, 0, 1))
        self.refused(field, Covered, (2, 0, 1), "lead", "a", 1, (2, 0, 1))
        self.refused(field, Covered, (5, 0, 1), "lead", "d", 0, (5, 0, 1))
        field.take("b")
        # Of several marks the first one is told, as they were marked.
        self.refused(field, Covered, (5, 0, 1), "lead", "d", 0, (2, 0, 1))
        self.refused(field, Covered, (5, 0, 1), "lead", "a", 1, (5, 0, 1))

    def test_what_lies_between_is_not_looked_at(self):
        field = example()
        # Through its own other end, over other fences, over marks.
        field.lead("a", 1, (-9, 0, 1))
        self.tells(field.drawing.fences[0], ("a", (0, 0), (-9, 0), 2))
        field.lead("b", 0, (4, 7, 1))
        self.tells(field.drawing.fences[1], ("b", (4, 7), (2, 5), 3))
        # To its own place: a deed that changes nothing.
        text, done = field.drawing.text, field.done
        field.lead("b", 0, (4, 7, 1))
        self.tells([field.drawing.text, field.done], [text, done + 1])

    def test_mark(self):
        field = example()
        for spot in list(WRONG_POINTS) + [(0, 0, 1), (2, 0, 1), (2001, 0, 1), (1, 1, 1001), (2, 5, 2), (6, 5, 2)]:
            with self.subTest(spot):
                self.refused(field, BadSpot, spot, "mark", spot)
        field.mark((2, 1, 1))
        self.tells(field.marks, ((2, 1, 1), (9, 1, 1), (2, 1, 1)))

    def test_numbers(self):
        field = example()
        wrong = [value for value in ANY_VALUES if type(value) is not int or not 0 <= value <= 5]
        for number in wrong + [-1, 6, 7, "0", (0,), [0], 10 ** 12]:
            self.refused(field, BadNumber, number, "strike", number)
            self.refused(field, BadNumber, number, "elder", number)
        self.refused(field, BadNumber, 5, "strike", 5)
        self.tells(field.elder(5).text, field.drawing.text)
        self.refused(Field(), BadNumber, 0, "strike", 0)
        self.refused(Field(), BadNumber, 1, "elder", 1)

    def test_numbers_of_marks(self):
        field = example()
        wrong = [value for value in ANY_VALUES if type(value) is not int or value not in (0, 1)]
        wrong += [2, -1, "0", (2, 1, 1)]
        for number in wrong:
            for name in ("apart", "cost"):
                self.refused(field, BadMark, number, name, number, 0)
                self.refused(field, BadMark, number, name, 0, number)
                self.refused(field, BadMark, number, name, number, 7)
                self.refused(field, BadMark, 7, name, 7, number)
        self.refused(Field(), BadMark, 0, "apart", 0, 0)
        self.refused(Field(), BadMark, 0, "cost", 0, 1)

    def test_nothing_to_take_back(self):
        field = Field()
        self.refused(field, NothingToUndo, None, "undo")
        self.refused(field, NothingToRedo, None, "redo")
        field.mark((0, 0, 1))
        self.refused(field, NothingToRedo, None, "redo")
        field.undo()
        self.refused(field, NothingToUndo, None, "undo")
        field.redo()
        self.refused(field, NothingToRedo, None, "redo")

    def test_no_trial(self):
        field = example()
        self.refused(field, NoTrial, None, "keep")
        with field.trial():
            pass
        self.refused(field, NoTrial, None, "keep")
        field.trial()
        self.refused(field, NoTrial, None, "keep")
        field.tried(lambda held: None, keep=True)
        self.refused(field, NoTrial, None, "keep")


class TestStrike(Fields):
    def test_leans(self):
        field = Field()
        for deed in (("put", ROWS[0]), ("put", ROWS[1]), ("mark", (2, 1, 1)), ("price", "b", 5), ("take", "a"),
                     ("mark", (2, 0, 1)), ("price", "b", 6), ("put", "fence a 0 9 4 9 1"), ("lead", "a", 0, (1, 9, 1))):
            getattr(field, deed[0])(*deed[1:])
        text = field.drawing.text
        # Without the first put, take is the first that is refused; of b, both prices are, the first one is told.
        for number, leans in ((0, 4), (1, 3), (4, 5), (7, 8)):
            self.refuses(Leans, leans, field.strike, number)
            self.tells([field.drawing.text, field.done], [text, 9])
        field.strike(5)
        # Now it leans much later: a mark lay on the fence that was taken, and a is put once more.
        self.refuses(Leans, 6, field.strike, 4)
        field.strike(3)
        self.tells([field.drawing.text, field.done], [text, 7])
        self.tells(field.marks, ((2, 1, 1),))

    def test_a_deed_that_leans_much_later(self):
        field = Field()
        field.put(ROWS[0])
        for k in range(30):
            field.mark((50 + k, 50, 1))
        field.take("a")
        field.mark((2, 0, 1))
        self.refuses(Leans, 31, field.strike, 0)
        self.refuses(Leans, 32, field.strike, 31)
        field.strike(15)
        self.refuses(Leans, 30, field.strike, 0)
        field.strike(31)
        field.strike(30)
        field.strike(0)
        self.tells([field.drawing.text, field.done, len(field.marks)], ["drawing", 29, 29])

    def test_nothing_can_be_done_again_behind_it(self):
        field = example()
        field.undo()
        field.strike(0)
        self.refuses(NothingToRedo, None, field.redo)
        self.tells([field.done, field.marks], [3, ((9, 1, 1),)])

    def test_refused_it_leaves_what_can_be_done_again(self):
        field = example()
        field.price("c", 9)
        field.price("b", 8)
        field.undo()
        self.refuses(Leans, 5, field.strike, 4)
        self.refuses(BadNumber, 6, field.strike, 6)
        field.redo()
        self.tells(field.drawing.fences[1][3], 8)

    def test_it_can_not_be_taken_back(self):
        field = example()
        field.strike(1)
        self.tells([field.done, field.marks], [4, ((2, 1, 1),)])
        field.undo()
        self.tells([field.done, field.marks, len(field.drawing)], [3, ((2, 1, 1),), 2])
        field.redo()
        self.tells([field.done, len(field.drawing)], [4, 3])

    def test_a_struck_mark_lets_a_fence_stand(self):
        field = example()
        line = "fence d 0 1 5 1 1"
        self.refuses(Covered, (2, 1, 1), field.put, line)
        field.strike(0)
        field.put(line)
        self.tells([field.marks, len(field.drawing)], [((9, 1, 1),), 4])


class TestDrawn(Fields):
    def test_some_hundred_deeds_each(self):
        words, errors = {}, {}
        for seed in range(4):
            dice, field, plain = random.Random(seed), Field(), PlainField()
            for count in range(300):
                deed = some_deed(dice, plain)
                with self.subTest((seed, count, deed)):
                    told = self.step(field, plain, deed)
                    words[deed[0]] = words.get(deed[0], 0) + (told is None)
                    errors[told and told[0]] = errors.get(told and told[0], 0) + 1
                    if count % 50 == 49:
                        self.wholly_alike(field, plain)
                        self.looked_at(field)
        for word in ("put", "take", "price", "lead", "mark", "undo", "redo", "strike"):
            self.assertGreater(words.get(word, 0), 15, word)
        for error in (BadFence, Covered, NoName, BadPrice, BadEnd, BadPoint, BadSpot, BadNumber, Leans, NothingToRedo,
                      Along):
            self.assertGreater(errors.get(error, 0), 1, error)

    def looked_at(self, field):
        """What the field tells of its marks is right for the drawing made anew."""
        anew = Drawing(field.drawing.text)
        strips = Strips(anew.fences, anew.corners) if anew.fences else None
        marks = field.marks[:4]
        for i in range(len(marks)):
            for j in range(len(marks)):
                told = field.apart(i, j)
                self.tells(told, parting(anew, marks[i], marks[j]))
                self.tells(shows_parting(anew, marks[i], marks[j], told), True)
                self.assertTrue(judge_parting(anew, marks[i], marks[j], told))
                self.tells(field.cost(i, j), cheapest(anew, marks[i], marks[j])[0])
                self.tells(field.cost(i, j), strips.cost(marks[i], marks[j]) if strips else 0)

    def test_every_strike(self):
        told = {None: 0, Leans: 0}
        for seed in range(8):
            plain = some_field(seed + 100, 90)
            field = read_journal(plain.journal())
            for number in range(len(plain.stood)):
                copy, twin = field.copy(), PlainField()
                twin.restore((plain.stood, []))
                with self.subTest((seed, number)):
                    due = self.step(copy, twin, ("strike", number))
                    told[due and due[0]] += 1
                    self.wholly_alike(copy, twin)
        self.assertGreater(min(told.values()), 20)


class TestUndo(Fields):
    def test_back_to_the_beginning_and_forth(self):
        field = example()
        field.lead("b", 1, (3, 5, 1))
        texts = [field.elder(many).text for many in range(field.done + 1)]
        whole = journal(field)
        for many in range(5, -1, -1):
            field.undo()
            self.tells([field.drawing.text, field.done], [texts[many], many])
        self.refuses(NothingToUndo, None, field.undo)
        for many in range(1, 7):
            field.redo()
            self.tells([field.drawing.text, field.done], [texts[many], many])
        self.refuses(NothingToRedo, None, field.redo)
        self.tells(journal(field), whole)

    def test_behind_deeds_that_change_nothing_and_refused_ones(self):
        for deed in (("price", "a", 2), ("lead", "a", 0, (0, 0, 1)), ("lead", "b", 1, (2, 5, 1)), ("mark", (2, 1, 1))):
            field = example()
            field.undo()
            field.undo()
            field.redo()
            getattr(field, deed[0])(*deed[1:])
            self.refuses(NothingToRedo, None, field.redo)
            self.tells(field.done, 5)
        for deed in (("price", "a", 0), ("lead", "a", 0, (4, 0, 1)), ("mark", (0, 0, 1)), ("put", ROWS[0]),
                     ("take", "c"), ("strike", 9), ("keep",), ("apart", 0, 9), ("elder", 9)):
            field = example()
            field.undo()
            with self.assertRaises(FenceError):
                getattr(field, deed[0])(*deed[1:])
            self.tells(field.redo(), None)
            self.tells(journal(field), journal(example()))


class Unlike(Exception):
    """An error of no kind that the program knows."""


class TestTrials(Fields):
    def test_what_is_held_is_the_field_itself(self):
        field = example()
        with field.trial() as held:
            self.assertIs(held, field)

    def test_nothing_stays(self):
        field = example()
        field.undo()
        before = journal(field)
        with field.trial():
            field.put("fence d 7 7 8 8 1")
            field.take("a")
            field.undo()
            field.mark((0, 1, 1))
            self.tells(field.done, 6)
        self.tells(journal(field), before)
        field.redo()
        self.tells(journal(field), journal(example()))

    def test_kept(self):
        field = example()
        with field.trial():
            field.put("fence d 7 7 8 8 1")
            field.keep()
            field.take("a")
        self.tells([field.done, len(field.drawing)], [7, 3])
        field.undo()
        field.undo()
        self.tells(journal(field), journal(example()))

    def test_errors_that_leave_a_block(self):
        for error in (Unlike("x"), NoName("x"), ValueError("x"), KeyError("x"), StopIteration(), KeyboardInterrupt(),
                      SystemExit(0), GeneratorExit(), FenceError(None)):
            for keeps in (False, True):
                field = example()
                field.undo()
                before = journal(field)
                with self.assertRaises(type(error)) as caught:
                    with field.trial():
                        field.take("a")
                        if keeps:
                            field.keep()
                        raise error
                self.assertIs(caught.exception, error)
                self.tells(journal(field), before)
                self.refuses(NoTrial, None, field.keep)
                field.redo()
                self.tells(journal(field), journal(example()))

    def test_errors_that_stay_in_the_block(self):
        field = example()
        with field.trial():
            field.take("a")
            field.keep()
            with self.assertRaises(NoName):
                field.take("a")
        self.tells([field.done, len(field.drawing)], [6, 2])

    def test_left_by_return_break_and_continue(self):
        field = example()

        def leave(keeps):
            with field.trial():
                field.take("a")
                if keeps:
                    field.keep()
                return field.done
        self.tells([leave(False), field.done, leave(True), field.done], [6, 5, 6, 6])
        for k in range(4):
            with field.trial():
                field.mark((40 + k, 0, 1))
                if k == 1:
                    field.keep()
                    continue
                if k == 3:
                    field.keep()
                    break
        self.tells(field.marks[2:], ((41, 0, 1), (43, 0, 1)))

    def test_blocks_within_blocks(self):
        for kept in range(8):
            field = example()
            with field.trial():
                field.mark((40, 0, 1))
                with field.trial():
                    field.mark((41, 0, 1))
                    with field.trial():
                        field.mark((42, 0, 1))
                        if kept & 4:
                            field.keep()
                    if kept & 2:
                        field.keep()
                    field.mark((43, 0, 1))
                if kept & 1:
                    field.keep()
                field.mark((44, 0, 1))
            marks = [40] if kept & 1 else []
            if kept & 3 == 3:
                marks += [41] + ([42] if kept & 4 else []) + [43]
            marks += [44] if kept & 1 else []
            self.tells([mark[0] for mark in field.marks[2:]], marks)
            self.refuses(NoTrial, None, field.keep)

    def test_what_was_done_ahead_of_the_block(self):
        field = example()
        whole = journal(field)
        with field.trial():
            for _ in range(5):
                field.undo()
            self.tells(journal(field), "field")
            field.redo()
            field.mark((50, 0, 1))
            self.refuses(NothingToRedo, None, field.redo)
        self.tells(journal(field), whole)
        self.refuses(NothingToRedo, None, field.redo)
        with field.trial():
            field.strike(0)
            field.keep()
        self.tells([field.done, field.marks], [4, ((9, 1, 1),)])
        field.undo()
        with field.trial():
            field.redo()
            self.tells(field.done, 4)
        self.tells(field.done, 3)
        field.redo()
        self.tells(field.done, 4)

    def test_a_block_entered_later_than_made(self):
        field = example()
        block = field.trial()
        field.mark((40, 0, 1))
        with block:
            field.mark((41, 0, 1))
        self.tells(field.marks[2:], ((40, 0, 1),))

    def test_drawn_ones(self):
        self.left = {"kept": 0, "not": 0, "raised": 0}
        for seed in range(10):
            dice, field, plain = random.Random(seed + 50), Field(), PlainField()
            for _ in range(14):
                with self.subTest(seed):
                    self.play(dice, field, plain, 0)
                    self.alike(field, plain)
            self.wholly_alike(field, plain)
        self.assertGreater(min(self.left.values()), 25)

    def play(self, dice, field, plain, depth):
        """Some deeds and, up to four deep, blocks, kept and not, left by errors or not."""
        for _ in range(dice.randint(1, 5)):
            self.step(field, plain, some_deed(dice, plain))
        if depth == 4 or dice.random() < 0.3:
            return
        saved, choice, keeps = plain.saved(), dice.random(), False
        error = dice.choice((Unlike, NoName, ValueError, FenceError))
        try:
            with field.trial() as held:
                self.assertIs(held, field)
                self.play(dice, field, plain, depth + 1)
                if choice < 0.6:
                    field.keep()
                    keeps = True
                if dice.random() < 0.3:
                    self.play(dice, field, plain, depth + 1)
                if choice < 0.2 or choice > 0.9:
                    keeps = False
                    raise error("left")
        except error as wrong:
            self.tells(str(wrong.args), "('left',)")
            self.left["raised"] += 1
        self.left["kept" if keeps else "not"] += 1
        if not keeps:
            plain.restore(saved)
        self.alike(field, plain)
        if depth == 0:
            self.refuses(NoTrial, None, field.keep)


class TestTried(Fields):
    def test_what_look_returns(self):
        field = example()
        for value in ANY_VALUES:
            self.assertIs(field.tried(lambda held: value), value)
            self.assertIs(field.tried(lambda held: value, keep=True), value)
        self.assertIs(field.tried(lambda held: held), field)
        self.tells(journal(field), journal(example()))

    def test_kept_for_true_alone(self):
        for keep in (True, False, 1, 0, None, "True", (True,), [True], 7, example()):
            field = example()
            told = field.tried(lambda held: held.take("a") or held.done, keep=keep)
            self.tells([told, field.done], [6, 6 if keep is True else 5])
        field = example()
        self.tells([field.tried(lambda held: held.take("a")), field.done], [None, 5])
        with self.assertRaises(TypeError):
            field.tried(lambda held: None, True)

    def test_look_calls_keep(self):
        for keep in (True, False, None):
            field = example()
            self.tells(field.tried(lambda held: held.take("a") or held.keep(), keep=keep), None)
            self.tells(field.done, 6)

    def test_keep_for_a_block_of_its_own(self):
        field = example()

        def look(held):
            held.mark((40, 0, 1))
            with held.trial():
                held.mark((41, 0, 1))
                held.keep()
            with held.trial():
                held.mark((42, 0, 1))
            return held.marks[2:]
        self.tells(field.tried(look), ((40, 0, 1), (41, 0, 1)))
        self.tells(field.marks[2:], ())
        self.tells(field.tried(look, keep=True), ((40, 0, 1), (41, 0, 1)))
        self.tells(field.marks[2:], ((40, 0, 1), (41, 0, 1)))

    def test_look_raises(self):
        for keep in (True, False):
            for error in (Unlike("x"), NoName("x"), StopIteration(1)):
                field, seen = example(), []

                def look(held):
                    held.take("a")
                    held.keep()
                    seen.append(held.done)
                    raise error
                with self.assertRaises(type(error)) as caught:
                    field.tried(look, keep=keep)
                self.assertIs(caught.exception, error)
                # What look has done to other objects stays.
                self.tells([journal(field), seen], [journal(example()), [6]])
                self.refuses(NoTrial, None, field.keep)

    def test_within_a_block(self):
        field = example()
        with field.trial():
            field.tried(lambda held: held.take("a"), keep=True)
            self.tells(field.done, 6)
            field.tried(lambda held: held.take("b"))
            self.tells(field.done, 6)
        self.tells(journal(field), journal(example()))
        with field.trial():
            field.tried(lambda held: held.tried(lambda inner: inner.take("a"), keep=True), keep=True)
            field.keep()
        self.tells(field.done, 6)


class TestCopies(Fields):
    def test_alike_in_all_things(self):
        field = example()
        field.undo()
        field.undo()
        copy = field.copy()
        self.assertIs(type(copy), Field)
        self.assertEqual(copy, field)
        for each in (copy, field):
            self.tells([each.drawing.text, each.marks, each.done], [field.drawing.text, field.marks, 3])
            self.tells([each.elder(many).text for many in range(4)], [field.elder(many).text for many in range(4)])
            self.tells([each.redo(), each.redo(), journal(each)], [None, None, journal(example())])
            self.refuses(NothingToRedo, None, each.redo)

    def test_independent(self):
        field = example()
        copy = field.copy()
        copy.take("a")
        copy.undo()
        copy.undo()
        copy.strike(0)
        self.tells([journal(field), field.done, len(field.drawing)], [journal(example()), 5, 3])
        self.refuses(NothingToRedo, None, field.redo)
        field.take("b")
        self.tells([copy.done, len(copy.drawing)], [3, 2])

    def test_outside_of_all_blocks(self):
        field = example()
        with field.trial():
            field.take("a")
            copy = field.copy()
            self.refuses(NoTrial, None, copy.keep)
            with copy.trial():
                copy.take("b")
                field.mark((40, 0, 1))
            self.tells(copy.done, 6)
            with copy.trial():
                copy.take("c")
                copy.keep()
        self.tells([field.done, copy.done, len(copy.drawing)], [5, 7, 1])

    def test_drawn_ones(self):
        for seed in range(4):
            dice, field, plain = random.Random(seed), Field(), PlainField()
            for _ in range(40):
                self.step(field, plain, some_deed(dice, plain))
            copy, twin = field.copy(), PlainField()
            twin.restore(plain.saved())
            for _ in range(40):
                each = dice.choice(((field, plain), (copy, twin)))
                self.step(*each, some_deed(dice, each[1]))
                self.alike(field, plain)
                self.alike(copy, twin)
            self.wholly_alike(field, plain)
            self.wholly_alike(copy, twin)


class TestEqual(Fields):
    def test_equal_if_their_journals_are(self):
        field = example()
        self.assertTrue(field == example() and not field != example())
        other = example()
        other.undo()
        self.assertTrue(field != other and not field == other)
        other.redo()
        self.assertEqual(field, other)
        # Alike drawings and marks with unlike deeds are unlike; what can be done again does not count.
        other.price("a", 2)
        self.tells(field.drawing == other.drawing, True)
        self.assertNotEqual(field, other)
        other.undo()
        self.assertEqual(field, other)
        with other.trial():
            self.assertEqual(field, other)
            other.take("a")
            self.assertNotEqual(field, other)
        self.assertEqual(field, other)

    def test_equal_to_nothing_else(self):
        for value in ANY_VALUES + (journal(example()), example().drawing, example().drawing.text, Field, object()):
            self.assertFalse(example() == value)
            self.assertTrue(example() != value)
            self.assertFalse(value == example())
            self.assertFalse(Field() == value)
        self.assertEqual(Field(), Field())


if __name__ == "__main__":
    unittest.main()
