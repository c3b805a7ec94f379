"""Section 17: journals."""

import random
import re
import unittest

from ringsorways import journals as module
from ringsorways.errors import BadJournal, FenceError
from ringsorways.field import Field
from ringsorways.journals import journal, read_journal
from tests.plain_field import INTEGER, PlainField, after, deed_line, some_deed, some_field
from tests.support import ANY_VALUES, Exact, name_number

ROWS = ["field", "put fence a 0 0 4 0 2", "mark 2 1 1", "mark 9 1 1", "put fence b 4 0 2 5 3", "put fence c 2 5 0 0 7",
        "lead b 1 3 5", "price c 99", "take a", "mark -5 3 7", "put fence a 0 -1 4 -1 2", "mark -4 -9 1"]
TEXT = "\n".join(ROWS)


def is_integer_word(word):
    return re.fullmatch(INTEGER, word) is not None


def read_deed(line):
    """The deed that this line tells, by the table of section 17; None if it tells none."""
    words = line.split(" ")
    if "" in words:
        return None
    if words[0] == "put" and len(words) > 1:
        return ("put", line.partition(" ")[2])
    if words[0] == "take" and len(words) == 2:
        return ("take", words[1])
    places = {"price": (2,), "lead": (2, 3, 4), "mark": (1, 2, 3)}.get(words[0])
    if not places or len(words) != places[-1] + 1 or not all(is_integer_word(words[place]) for place in places):
        return None
    numbers = tuple(int(words[place]) for place in places)
    if words[0] == "price":
        return ("price", words[1]) + numbers
    return ("mark", numbers) if words[0] == "mark" else ("lead", words[1], numbers[0], numbers[1:] + (1,))


def first_wrong(text):
    """The number of the first wrong line of a journal; None if it is right."""
    lines = text.split("\n")
    if lines[0] != "field":
        return 1
    state = ([], [])
    for number, line in enumerate(lines[1:], start=2):
        deed = read_deed(line)
        state, due = after(state, deed) if deed else (None, "no form")
        if due is not None:
            return number
    return None


def bent_lines(line):
    """Lines that differ from this one in one place."""
    words = line.split(" ")
    for place, word in enumerate(words):
        yield " ".join(words[:place] + words[place + 1:])
        yield " ".join(words[:place] + [word] + words[place:])
        for other in (word + "x", word[:-1], "0" + word, "+" + word, word + ".0", "-" + word, " " + word, word + " ",
                      word.upper(), "", "7", "-7", "1_0", "undo", word + "\n", "-0"):
            yield " ".join(words[:place] + [other] + words[place + 1:])
    yield from (" " + line, line + " ", line.replace(" ", "  ", 1), line.replace(" ", "  "), line + " 1", "",
                " ", "undo", "redo", "strike 0", "fences", "marks", "keep", "field", "field\n" + line, line + "\n",
                "\n" + line, line + "\n" + line, "put", "take", "mark", "lead", "price", "PUT " + line, line[::-1])


class Journals(Exact):
    def holds(self, text):
        """What is read, or refused, is so by the tests' own sums; returned is the number of the first wrong line."""
        wrong = first_wrong(text)
        if wrong is None:
            self.tells(journal(read_journal(text)), text)
        else:
            self.refuses(BadJournal, wrong, read_journal, text)
        return wrong


class TestExamples(Exact):
    def test_what_is_told_below(self):
        self.refuses(BadJournal, 3, read_journal, "field\nput fence a 0 0 4 0 2\nmark 1 0 1")
        field = read_journal(TEXT)
        self.tells(read_journal(journal(field)) == field, True)


class TestInterface(Exact):
    def test_the_functions_are_defined_in_the_file(self):
        for function in (journal, read_journal):
            self.assertEqual(function.__module__, "ringsorways.journals")
            self.assertIs(getattr(module, function.__name__), function)

    def test_arguments_by_name_and_equal_calls(self):
        field = read_journal(text=TEXT)
        self.assertIs(type(field), Field)
        self.tells(journal(field=field), TEXT)
        self.tells(journal(field), journal(read_journal(TEXT)))
        self.assertIsNot(read_journal(TEXT), read_journal(TEXT))


class TestJournal(Journals):
    def test_a_new_field(self):
        self.tells(journal(Field()), "field")
        self.tells([read_journal("field").done, read_journal("field").drawing.text], [0, "drawing"])

    def test_each_form(self):
        field = Field()
        field.put("fence abc -1000 1000 0 -5 99")
        field.mark((-4000, 3, 2))
        field.mark((0, 0, 1))
        field.price("abc", 1)
        field.lead("abc", 0, (-7, -8, 1))
        field.lead("abc", 1, (7, -8, 1))
        field.take("abc")
        self.tells(journal(field), "\n".join((
            "field", "put fence abc -1000 1000 0 -5 99", "mark -4000 3 2", "mark 0 0 1", "price abc 1",
            "lead abc 0 -7 -8",
            "lead abc 1 7 -8", "take abc")))
        self.tells(read_journal(journal(field)) == field, True)

    def test_what_was_taken_back_or_struck_does_not_stand(self):
        field = read_journal(TEXT)
        field.undo()
        self.tells(journal(field), "\n".join(ROWS[:-1]))
        field.redo()
        self.tells(journal(field), TEXT)
        field.strike(6)
        self.tells(journal(field), "\n".join(ROWS[:7] + ROWS[8:]))
        with field.trial():
            field.undo()
            self.tells(journal(field), "\n".join(ROWS[:7] + ROWS[8:-1]))
        self.tells(journal(field), "\n".join(ROWS[:7] + ROWS[8:]))

    def test_drawn_ones_there_and_back(self):
        for seed in range(25):
            dice, field, plain = random.Random(seed), Field(), PlainField()
            for _ in range(50):
                deed = some_deed(dice, plain)
                if plain.act(deed) is None:
                    getattr(field, deed[0])(*deed[1:])
                else:
                    with self.assertRaises(FenceError):
                        getattr(field, deed[0])(*deed[1:])
            text = journal(field)
            self.tells(text, "\n".join(["field"] + [deed_line(deed) for deed in plain.stood]))
            again = read_journal(text)
            self.assertEqual(again, field)
            self.tells([journal(again), again.drawing.text, again.marks, again.done],
                       [text, field.drawing.text, field.marks, field.done])
            self.tells([again.elder(k).text for k in range(again.done + 1)],
                       [field.elder(k).text for k in range(field.done + 1)])


class TestReadJournal(Journals):
    def test_what_is_no_string(self):
        for value in ANY_VALUES + (b"field", ("field",), ["field"], Field(), read_journal(TEXT)):
            if type(value) is not str:
                self.refuses(BadJournal, 0, read_journal, value)

    def test_the_first_line(self):
        for text in ("", "\n", "Field", "field ", " field", "fields", "drawing", "\nfield", "put fence a 0 0 4 0 2",
                     "field\x00", "x\nundo", "\n".join(ROWS[1:])):
            with self.subTest(text):
                self.refuses(BadJournal, 1, read_journal, text)

    def test_line_feeds_at_the_end(self):
        self.refuses(BadJournal, 2, read_journal, "field\n")
        self.refuses(BadJournal, 2, read_journal, "field\n\n")
        self.refuses(BadJournal, len(ROWS) + 1, read_journal, TEXT + "\n")
        self.refuses(BadJournal, 3, read_journal, ROWS[0] + "\n" + ROWS[1] + "\n\n" + ROWS[2])

    def test_lines_of_no_form(self):
        for line in ("undo", "redo", "strike 0", "strike 1", "fences", "marks", "keep", "copy", "elder 0", "apart 0 1",
                     "Put fence z 7 7 8 8 1", "put", "put ", "put  fence z 7 7 8 8 1", "put fence z  7 7 8 8 1",
                     "put fence z 7 7 8 8 1 ", " put fence z 7 7 8 8 1", "fence z 7 7 8 8 1", "take", "take a b",
                     "take ",
                     "take  a", "price a", "price a 1 1", "price a x", "price a 01", "price a +1", "price a 1.0",
                     "price a -0", "lead a 0 1", "lead a 0 1 1 1", "lead a x 1 1", "lead a 0 1 y", "lead a 00 1 1",
                     "mark 7 7", "mark 7 7 1 1", "mark x 7 1", "mark 7 7 01", "mark 7  7 1", "mark 7 7 1 ",
                     "mark 7 7 1_0"):
            with self.subTest(line):
                self.refuses(BadJournal, 2, read_journal, "field\n" + line)
                self.refuses(BadJournal, 3, read_journal, "field\nput fence a 0 0 4 0 2\n" + line)
                self.refuses(BadJournal, 3, read_journal, "field\nput fence a 0 0 4 0 2\n" + line + "\nundo")

    def test_deeds_that_are_refused(self):
        for line in ("put fence a 7 7 8 8 1", "put x", "put fence z 1 0 2 0 1", "put fence z 1 1 1 1 1", "put undo",
                     "put fence z 0 -1 0 9 100", "take z", "take A", "take -7", "price z 1", "price a 0", "price a 100",
                     "price a -5", "lead z 0 1 1", "lead a 2 1 1", "lead a -1 1 1", "lead a 0 1001 1", "lead a 0 4 0",
                     "mark 1 0 1", "mark 2 4 2", "mark 2001 0 1", "mark 1 1 0", "mark 1 1 -1", "mark 1 1 1001"):
            with self.subTest(line):
                self.refuses(BadJournal, 3, read_journal, "field\nput fence a 0 0 4 0 2\n" + line)
        self.refuses(BadJournal, 4, read_journal, "field\nput fence a 0 0 4 0 2\nmark 9 9 1\nput fence b 8 9 10 9 1")

    def test_bent_in_each_single_place(self):
        rights = 0
        for place in range(len(ROWS)):
            lines = [ROWS[:place] + ROWS[place + 1:], ROWS[:place + 1] + ROWS[place:]]
            for other in range(len(ROWS)):
                swapped = list(ROWS)
                swapped[place], swapped[other] = ROWS[other], ROWS[place]
                lines.append(swapped)
                lines.append(ROWS[:place] + [ROWS[other]] + ROWS[place:])
            lines += [ROWS[:place] + [bent] + ROWS[place + 1:] for bent in bent_lines(ROWS[place])]
            for rows in lines:
                with self.subTest(rows):
                    rights += self.holds("\n".join(rows)) is None
        self.assertGreater(rights, 40)

    def test_drawn_ones_bent(self):
        told = {True: 0, False: 0}
        for seed in range(12):
            dice = random.Random(seed)
            rows = some_field(seed + 30, 25).journal().split("\n")
            for _ in range(40):
                place = dice.randrange(len(rows))
                choice = dice.randrange(4)
                bent = list(rows)
                if choice == 0:
                    del bent[place]
                elif choice == 1:
                    bent[place] = dice.choice(list(bent_lines(rows[place])))
                elif choice == 2:
                    bent.insert(dice.randrange(len(rows)), rows[place])
                else:
                    dice.shuffle(bent)
                    bent.sort(key=lambda row: row != "field")
                with self.subTest((seed, bent)):
                    told[self.holds("\n".join(bent)) is None] += 1
        self.assertGreater(min(told.values()), 40)

    def test_forty_one_fences(self):
        lines = ["field"] + [f"put fence {name_number(k)} 0 {k} 9 {k} 1" for k in range(41)]
        self.tells(len(read_journal("\n".join(lines[:-1])).drawing), 40)
        self.refuses(BadJournal, 42, read_journal, "\n".join(lines))


if __name__ == "__main__":
    unittest.main()
