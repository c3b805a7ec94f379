"""Journals (section 17): the deeds of a field as lines."""

from ringsorways.errors import BadJournal, FenceError
from ringsorways.field import Field
from ringsorways.forms import deed_of, line_of

FIRST_LINE = "field"


def journal(field):
    """The lines of all deeds that stand."""
    return "\n".join([FIRST_LINE] + [line_of(deed) for deed in field.deeds])


def read_journal(text):
    """A Field on which all that was done."""
    if not isinstance(text, str):
        raise BadJournal(0)
    lines = text.split("\n")
    if lines[0] != FIRST_LINE:
        raise BadJournal(1)
    field = Field()
    for number, line in enumerate(lines[1:], start=2):
        deed = deed_of(line)
        if deed is None:
            raise BadJournal(number)
        try:
            field.do(deed)
        except FenceError:
            raise BadJournal(number) from None
    return field
