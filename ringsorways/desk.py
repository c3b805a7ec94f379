"""A desk (section 17): a field that is worked on line by line."""

from ringsorways.errors import BadWords
from ringsorways.forms import deed_of, read_form, words_of
from ringsorways.journals import read_journal
from ringsorways.lands import area, lands
from ringsorways.spots import land_of

DONE = "ok"
NOTHING = "none"

# What may be said besides deeds; the letters are those of the module forms.
FORMS = {
    "undo": "", "redo": "", "strike": "I", "fences": "", "marks": "", "lands": "", "land": "I", "area": "I",
    "apart": "II", "cost": "II",
}


def do_undo(field, _):
    """Take the last deed back."""
    field.undo()
    return DONE


def do_redo(field, _):
    """Do the deed again that was taken back last."""
    field.redo()
    return DONE


def do_strike(field, numbers):
    """Let the deed of this number never have been done."""
    field.strike(numbers[0])
    return DONE


def tell_fences(field, _):
    """The lines of all fences."""
    lines = field.drawing.text.split("\n")[1:]
    return "; ".join(lines) if lines else NOTHING


def tell_marks(field, _):
    """The numbers of all marks."""
    rows = [words_of(mark) for mark in field.marks]
    return "; ".join(rows) if rows else NOTHING


def tell_lands(field, _):
    """How many lands there are."""
    return str(len(lands(field.drawing)))


def tell_land(field, numbers):
    """The land in which this mark lies."""
    return str(land_of(field.drawing, field.mark_of(numbers[0])))


def tell_area(field, numbers):
    """The area of this land."""
    top, bottom = area(field.drawing, numbers[0])
    return f"{top}" if bottom == 1 else f"{top}/{bottom}"


def tell_apart(field, numbers):
    """Which of way and ring there is between two marks."""
    return field.apart(numbers[0], numbers[1])[0]


def tell_cost(field, numbers):
    """What it costs at least to come from one mark to another."""
    return str(field.cost(numbers[0], numbers[1]))


ANSWERS = {
    "undo": do_undo, "redo": do_redo, "strike": do_strike, "fences": tell_fences, "marks": tell_marks,
    "lands": tell_lands, "land": tell_land, "area": tell_area, "apart": tell_apart, "cost": tell_cost,
}


class Desk:
    """A field, and what can be said to it."""

    def __init__(self, text):
        self.field = read_journal(text)

    def say(self, line):
        """Do what this line tells, and return the answer."""
        if not isinstance(line, str) or "\n" in line:
            raise BadWords(line)
        deed = deed_of(line)
        if deed is not None:
            self.field.do(deed)
            return DONE
        words = line.split(" ")
        told = read_form(words, FORMS.get(words[0]))
        if told is None:
            raise BadWords(line)
        answer = ANSWERS[told[0]]
        return answer(self.field, told[1:])
