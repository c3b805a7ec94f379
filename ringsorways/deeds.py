"""Deeds (section 16): what each of them makes of a drawing and its marks.

A state is (drawing, marks). A deed is a tuple: a word, then what the method of a field that has
this name was handed. What is refused raises an error.
"""

from ringsorways.drawings import drawn, priced, stretch_of, with_fence, without
from ringsorways.ends import first_along, place_to_lead, with_end_at
from ringsorways.errors import Along, Covered, Same
from ringsorways.geometry import lies_on
from ringsorways.ground import check_spots


def state_after(state, deed):
    """The state that this deed makes of this one."""
    drawing, marks = state
    action = ACTIONS[deed[0]]
    return action(drawing, marks, deed)


def after_put(drawing, marks, deed):
    """One fence more."""
    more = with_fence(drawing, deed[1])
    check_marks(marks, more.fences[-1])
    return (more, marks)


def after_take(drawing, marks, deed):
    """The fence goes."""
    return (without(drawing, deed[1]), marks)


def after_price(drawing, marks, deed):
    """The fence has another price."""
    return (priced(drawing, deed[1], deed[2]), marks)


def after_lead(drawing, marks, deed):
    """An end of the fence stands elsewhere."""
    _, name, end, point = deed
    place = place_to_lead(drawing, name, end, point)
    if stretch_of(drawing.fences[place])[1 - end] == point:
        raise Same((point, point))
    fences = with_end_at(drawing.fences, place, end, point)
    other = first_along(fences, place)
    if other is not None:
        raise Along((name, fences[other][0]))
    check_marks(marks, fences[place])
    return (drawn(fences), marks)


def after_mark(drawing, marks, deed):
    """One mark more."""
    check_spots(drawing, (deed[1],))
    return (drawing, marks + (deed[1],))


ACTIONS = {"put": after_put, "take": after_take, "price": after_price, "lead": after_lead, "mark": after_mark}


def check_marks(marks, fence):
    """Raise Covered with the first mark that lies on the fence."""
    a, b = stretch_of(fence)
    for spot in marks:
        if lies_on(a, b, spot):
            raise Covered(spot)
