"""Fences that have an end of theirs put elsewhere (sections 14 and 16)."""

from ringsorways.drawings import place_of, stretch_of
from ringsorways.errors import BadEnd, BadPoint
from ringsorways.geometry import lie_along
from ringsorways.values import is_number_below, is_whole_point


def place_to_lead(drawing, name, end, point):
    """The place of the fence of this name; raises NoName, then BadEnd, then BadPoint."""
    place = place_of(drawing, name)
    if not is_number_below(end, 2):
        raise BadEnd(end)
    if not is_whole_point(point):
        raise BadPoint(point)
    return place


def with_end_at(fences, place, end, point):
    """The list of these fences, the one at this place with this end at the point."""
    name, first, second, price = fences[place]
    led = list(fences)
    led[place] = (name, point[:2], second, price) if end == 0 else (name, first, point[:2], price)
    return led


def first_along(fences, place):
    """The place of the first other fence that has more than one point in common with the one at this place; or None."""
    a, b = stretch_of(fences[place])
    for number, fence in enumerate(fences):
        c, d = stretch_of(fence)
        if number != place and lie_along(a, b, c, d):
            return number
    return None
