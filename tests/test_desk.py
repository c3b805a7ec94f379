"""Section 17: a desk."""

import inspect
import random
import unittest

from ringsorways import desk as module
from ringsorways.cheapest import cheapest
from ringsorways.desk import Desk
from ringsorways.errors import (BadFence, BadJournal, BadLand, BadMark, BadNumber, BadPrice, BadSpot, BadWords,
                                FenceError,
                                Leans, NoName, NothingToRedo, NothingToUndo)
from ringsorways.field import Field
from ringsorways.journals import journal, read_journal
from ringsorways.lands import area, lands
from ringsorways.parting import parting
from ringsorways.spots import land_of
from tests.plain_field import PlainField, deed_line, some_deed, some_field
from tests.support import ANY_VALUES, Exact
from tests.test_journals import bent_lines, is_integer_word, read_deed

TEXT = "field\nput fence a 0 0 4 0 2\nmark 2 1 1\nmark 9 1 1"
QUESTIONS = {"undo": 0, "redo": 0, "strike": 1, "fences": 0, "marks": 0, "lands": 0, "land": 1, "area": 1, "apart": 2,
             "cost": 2}


def numbers_of(line):
    """The word and the numbers of a line that is no deed; None if it has no form."""
    words = line.split(" ")
    if "" in words or words[0] not in QUESTIONS or len(words) != 1 + QUESTIONS[words[0]]:
        return None
    return (words[0], *map(int, words[1:])) if all(map(is_integer_word, words[1:])) else None


def mark_of(field, number):
    if number not in range(len(field.marks)):
        raise BadMark(number)
    return field.marks[number]


def answer(field, line):
    """What a desk answers on this field, by the field and the functions."""
    if type(line) is not str or "\n" in line:
        raise BadWords(line)
    deed, told = read_deed(line), numbers_of(line)
    if deed is not None:
        return getattr(field, deed[0])(*deed[1:]) or "ok"
    if told is None:
        raise BadWords(line)
    word, *numbers = told
    if word in ("undo", "redo", "strike"):
        return getattr(field, word)(*numbers) or "ok"
    if word == "fences":
        return "; ".join(f"fence {name} {a[0]} {a[1]} {b[0]} {b[1]} {price}"
                         for name, a, b, price in field.drawing.fences) or "none"
    if word == "marks":
        return "; ".join(f"{x} {y} {bottom}" for x, y, bottom in field.marks) or "none"
    if word == "lands":
        return str(len(lands(field.drawing)))
    if word == "area":
        top, bottom = area(field.drawing, numbers[0])
        return str(top) if bottom == 1 else f"{top}/{bottom}"
    spots = [mark_of(field, number) for number in numbers]
    if word == "land":
        return str(land_of(field.drawing, *spots))
    return parting(field.drawing, *spots)[0] if word == "apart" else str(cheapest(field.drawing, *spots)[0])


def some_line(dice, plain):
    """A drawn line: a deed, a question, or one of no form."""
    choice = dice.random()
    if choice < 0.5:
        deed = some_deed(dice, plain)
        line = deed_line(deed)
        return line if dice.random() < 0.9 else dice.choice(list(bent_lines(line)))
    word = dice.choice(list(QUESTIONS))
    count = QUESTIONS[word] if dice.random() < 0.9 else dice.randint(0, 3)
    words = [word] + [str(dice.choice((0, 1, 1, 2, 3, -1, 9))) for _ in range(count)]
    return " ".join(words) if dice.random() < 0.9 else dice.choice(list(bent_lines(" ".join(words))))


class TestExamples(Exact):
    def test_all(self):
        desk = Desk("field\nput fence a 0 0 4 0 2\nmark 2 1 1\nmark 9 1 1")
        lines = ("put fence b 4 0 2 5 3", "put fence c 2 5 0 0 7", "apart 0 1", "cost 0 1", "land 0", "area 1")
        self.tells([desk.say(line) for line in lines], ["ok", "ok", "ring", "2", "1", "10"])
        self.tells([desk.say(line) for line in ("lead b 1 3 5", "apart 0 1", "lands", "fences")],
                   ["ok", "way", "1", "fence a 0 0 4 0 2; fence b 4 0 3 5 3; fence c 2 5 0 0 7"])
        self.tells([desk.say("strike 5"), desk.say("marks"), journal(desk.field).split("\n")[3:]],
                   ["ok", "2 1 1; 9 1 1", ["mark 9 1 1", "put fence b 4 0 2 5 3", "put fence c 2 5 0 0 7"]])
        self.tells(read_journal(journal(desk.field)) == desk.field, True)


class TestInterface(Exact):
    def test_the_class_is_defined_in_the_file(self):
        self.assertEqual(Desk.__module__, "ringsorways.desk")
        self.assertIs(module.Desk, Desk)
        self.assertIn("say", vars(Desk))
        self.assertEqual(list(inspect.signature(Desk.say).parameters)[1:], ["line"])

    def test_arguments_by_name(self):
        desk = Desk(text=TEXT)
        self.tells(desk.say(line="lands"), "1")

    def test_the_field_is_the_very_one(self):
        desk = Desk(TEXT)
        self.assertIs(type(desk.field), Field)
        held = desk.field
        desk.say("mark 7 7 1")
        self.assertIs(desk.field, held)
        self.tells(held.done, 4)
        held.mark((8, 8, 1))
        self.tells(desk.say("marks"), "2 1 1; 9 1 1; 7 7 1; 8 8 1")
        with held.trial():
            desk.say("undo")
            self.tells(desk.say("marks"), "2 1 1; 9 1 1; 7 7 1")
        self.tells(desk.say("marks"), "2 1 1; 9 1 1; 7 7 1; 8 8 1")

    def test_desks_are_independent(self):
        one, other = Desk(TEXT), Desk(TEXT)
        one.say("undo")
        self.tells([one.field.done, other.field.done], [2, 3])

    def test_wrong_journals(self):
        for text, number in ((None, 0), (7, 0), (["field"], 0), ("", 1), ("desk", 1), ("field\n", 2), ("field\nundo",
                                                                                                       2),
                             (TEXT + "\nmark 1 0 1", 5), (TEXT + "\nlands", 5)):
            self.refuses(BadJournal, number, Desk, text)
        for value in ANY_VALUES:
            self.refuses(BadJournal, 1 if type(value) is str else 0, Desk, value)


class TestAnswers(Exact):
    def test_nothing(self):
        desk = Desk("field")
        self.tells([desk.say(line) for line in ("fences", "marks", "lands")], ["none", "none", "1"])
        self.tells([desk.say("mark 1 2 3"), desk.say("marks"), desk.say("land 0"), desk.say("apart 0 0"),
                    desk.say("cost 0 0")], ["ok", "1 2 3", "0", "way", "0"])

    def test_fractions(self):
        desk = Desk("field")
        for line in ("put fence a 0 0 3 0 1", "put fence b 3 0 0 3 1", "put fence c 0 3 0 0 1",
                     "put fence d -1 1 4 1 1"):
            self.tells(desk.say(line), "ok")
        self.tells([desk.say("lands"), desk.say("area 1"), desk.say("area 2")], ["3", "5/2", "2"])
        desk.say("lead d 0 -1 0")
        self.tells(desk.say("area 1"), "/".join(map(str, area(desk.field.drawing, 1))))

    def test_great_numbers(self):
        desk = Desk("field")
        for line in ("put fence a -1000 -1000 1000 -1000 99", "put fence b 1000 -1000 1000 1000 99",
                     "put fence c 1000 1000 -1000 1000 99", "put fence d -1000 1000 -1000 -1000 99", "mark 0 0 1",
                     "mark 2000000 -1999999 1000"):
            self.tells(desk.say(line), "ok")
        self.tells([desk.say("area 1"), desk.say("cost 1 0"), desk.say("apart 1 0"), desk.say("marks")],
                   ["4000000", "99", "ring", "0 0 1; 2000000 -1999999 1000"])

    def test_what_is_refused(self):
        for line, error, value in (
                ("put fence a 7 7 8 8 1", BadFence, "fence a 7 7 8 8 1"), ("put x", BadFence, "x"),
                ("put x y z", BadFence, "x y z"), ("take z", NoName, "z"), ("take A1-", NoName, "A1-"),
                ("price z 0", NoName, "z"), ("price a 0", BadPrice, 0), ("price a -7", BadPrice, -7),
                ("mark 1 0 1", BadSpot, (1, 0, 1)), ("mark 2 4 2", BadSpot, (2, 4, 2)), ("mark 1 1 0", BadSpot, (1, 1,
                                                                                                                 0)),
                ("redo", NothingToRedo, None), ("strike 3", BadNumber, 3), ("strike -1", BadNumber, -1),
                ("land 2", BadMark, 2), ("land -1", BadMark, -1), ("apart 2 0", BadMark, 2), ("apart 0 -1", BadMark,
                                                                                              -1),
                ("apart 7 8", BadMark, 7), ("cost 0 2", BadMark, 2), ("cost 5 9", BadMark, 5), ("area 0", BadLand, 0),
                ("area 1", BadLand, 1), ("area -1", BadLand, -1)):
            with self.subTest(line):
                desk = Desk(TEXT)
                self.refuses(error, value, desk.say, line)
                self.tells(journal(desk.field), TEXT)
        self.refuses(NothingToUndo, None, Desk("field").say, "undo")
        desk = Desk(TEXT)
        desk.say("price a 5")
        self.refuses(Leans, 3, desk.say, "strike 0")

    def test_lines_of_no_form(self):
        lines = ["", " ", "ok", "field", "put", "put ", "take", "take a b", "price a", "price a 1 1", "lead a 0 1",
                 "lead a 0 1 1 1", "mark 1 1", "mark 1 1 1 1", "undo ", " undo", "undo 1", "redo 0", "strike",
                 "strike 1 1",
                 "strike x", "strike 01", "strike +1", "strike -0", "strike 1.0", "fences ", "fences a", "marks 0",
                 "lands 1",
                 "land", "land 0 0", "land x", "land 00", "area", "area 1 1", "area x", "area 1/2", "apart", "apart 0",
                 "apart 0 1 2", "apart 0  1", "apart x 1", "apart 0 y", "cost", "cost 0", "cost 0 1 2", "cost 0 x",
                 "Lands", "LANDS", "keep", "copy", "trial", "elder 0", "journal", "put  fence b 7 7 8 8 1",
                 "put fence b 7 7 8 8 1 ", "put fence  b 7 7 8 8 1", "mark 1 1 x", "price a x", "lead a x 1 1",
                 "undo\n", "\nundo", "undo\nundo", "put fence b 7 7 8 8 1\n", "mark 7 7 1\nmark 8 8 1", "\n"]
        for line in lines:
            with self.subTest(line):
                desk = Desk(TEXT)
                self.refuses_the_very(BadWords, line, desk.say, line)
                self.tells(journal(desk.field), TEXT)

    def test_values_of_any_kind(self):
        desk = Desk(TEXT)
        for value in ANY_VALUES + (b"undo", ("undo",), ["undo"], desk, Field()):
            self.refuses_the_very(BadWords, value, desk.say, value)
        self.tells(journal(desk.field), TEXT)

    def test_every_answer_is_a_string(self):
        desk = Desk(TEXT)
        for line in ("put fence b 4 0 2 5 3", "put fence c 2 5 0 0 7", "price a 9", "lead b 1 3 5", "undo", "redo",
                     "undo",
                     "mark 1 1 1", "strike 5", "strike 1", "fences", "marks", "lands", "land 0", "area 1", "apart 0 1",
                     "cost 0 1", "take a", "fences"):
            self.assertIs(type(desk.say(line)), str, line)


class TestDrawn(Exact):
    def test_line_by_line_against_a_field_and_the_functions(self):
        answers, errors = {}, {}
        for seed in range(8):
            dice = random.Random(seed)
            plain = some_field(seed, 20)
            desk, field, shadow = Desk(plain.journal()), read_journal(plain.journal()), PlainField()
            shadow.restore((plain.stood, []))
            for count in range(150):
                line = some_line(dice, shadow)
                with self.subTest((seed, count, line)):
                    due = told = None
                    try:
                        due = answer(field, line)
                    except FenceError as wrong:
                        self.refuses(type(wrong), wrong.value, desk.say, line)
                        errors[type(wrong)] = errors.get(type(wrong), 0) + 1
                    else:
                        told = desk.say(line)
                        self.tells(told, due)
                        answers[line.split(" ")[0]] = answers.get(line.split(" ")[0], 0) + 1
                    self.tells(journal(desk.field), journal(field))
                    self.follow(shadow, line, told)
                    self.tells(journal(field), shadow.journal())
        for word in list(QUESTIONS) + ["put", "take", "price", "lead", "mark"]:
            self.assertGreater(answers.get(word, 0), 2, word)
        for error in (BadWords, BadMark, BadLand, BadNumber, NoName, BadFence, NothingToRedo):
            self.assertGreater(errors.get(error, 0), 5, error)

    def follow(self, shadow, line, told):
        """The tests' own field does it, too, if it was done."""
        if told == "ok":
            deed = read_deed(line) or numbers_of(line)
            self.assertIsNone(shadow.act(deed))

    def test_each_form_bent(self):
        dice = random.Random(4)
        for line in ("put fence b 4 0 2 5 3", "take a", "price a 7", "lead a 1 3 5", "mark 1 1 2", "undo", "redo",
                     "strike 1", "fences", "marks", "lands", "land 1", "area 1", "apart 0 1", "cost 1 0"):
            for bent in list(bent_lines(line)) + [line]:
                desk, field = Desk(TEXT), read_journal(TEXT)
                if dice.random() < 0.5:
                    desk.say("undo")
                    field.undo()
                with self.subTest(bent):
                    try:
                        due = answer(field, bent)
                    except FenceError as wrong:
                        self.refuses(type(wrong), wrong.value, desk.say, bent)
                    else:
                        self.tells(desk.say(bent), due)
                    self.tells(journal(desk.field), journal(field))


if __name__ == "__main__":
    unittest.main()
