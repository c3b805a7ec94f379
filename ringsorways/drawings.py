"""Drawings (section 5): fences, and the corners and pieces that they make."""

from ringsorways.cutting import cut
from ringsorways.errors import BadDrawing, BadFence, BadPrice, BadWord, NoName
from ringsorways.geometry import lie_along
from ringsorways.values import integer_of, is_name, is_price, is_whole_point

HEAD = "drawing"
MOST_FENCES = 40


class Drawing:
    """Fences as a text tells them."""

    def __init__(self, text):
        self.text = text
        self.fences = read_fences(text)
        corners, rows = cut([stretch_of(fence) for fence in self.fences])
        self.corners = corners
        self.pieces = pieces_of(self.fences, rows)

    def __len__(self):
        return len(self.fences)

    def __eq__(self, other):
        return isinstance(other, Drawing) and self.text == other.text


def with_fence(drawing, line):
    """The Drawing with this line more."""
    if not isinstance(line, str) or "\n" in line:
        raise BadFence(line)
    try:
        return Drawing(drawing.text + "\n" + line)
    except BadDrawing:
        raise BadFence(line) from None


def without(drawing, name):
    """The Drawing without the fence of this name."""
    place = place_of(drawing, name)
    return drawn(drawing.fences[:place] + drawing.fences[place + 1:])


def priced(drawing, name, price):
    """The Drawing in which the fence of this name has this price."""
    place = place_of(drawing, name)
    if not is_price(price):
        raise BadPrice(price)
    fences = list(drawing.fences)
    fences[place] = fences[place][:3] + (price,)
    return drawn(fences)


def led_over(drawing, word):
    """The Drawing turned by a quarter, or mirrored."""
    if word == "turned":
        return drawn([(name, (-a[1], a[0]), (-b[1], b[0]), price) for name, a, b, price in drawing.fences])
    if word == "mirrored":
        return drawn([(name, (-a[0], a[1]), (-b[0], b[1]), price) for name, a, b, price in drawing.fences])
    raise BadWord(word)


def place_of(drawing, name):
    """The place of the fence of this name among those of the drawing; raises NoName."""
    for place, fence in enumerate(drawing.fences):
        if fence[0] == name:
            return place
    raise NoName(name)


def drawn(fences):
    """The Drawing of these fences."""
    return Drawing("\n".join([HEAD] + [fence_line(fence) for fence in fences]))


def fence_line(fence):
    """The line that tells this fence."""
    name, (x, y), (u, v), price = fence
    return f"fence {name} {x} {y} {u} {v} {price}"


def stretch_of(fence):
    """The two ends of a fence, as points."""
    return (fence[1] + (1,), fence[2] + (1,))


def pieces_of(fences, rows):
    """The pieces of all fences, each fence being cut at the corners of its row."""
    return tuple(
        [(fence[0], row[k], row[k + 1]) for fence, row in zip(fences, rows) for k in range(len(row) - 1)]
    )


def read_fences(text):
    """The fences that this text tells, as they stand; raises BadDrawing."""
    if not isinstance(text, str):
        raise BadDrawing(0)
    lines = text.split("\n")
    if lines[0] != HEAD:
        raise BadDrawing(1)
    fences = []
    for number, line in enumerate(lines[1:], start=2):
        fence = read_fence(line)
        if fence is None or len(fences) == MOST_FENCES or clashes(fence, fences):
            raise BadDrawing(number)
        fences.append(fence)
    return tuple(fences)


def read_fence(line):
    """The fence (name, first end, second end, price) that this line tells; None if it tells none."""
    words = line.split(" ")
    if len(words) != 7 or words[0] != "fence" or not is_name(words[1]):
        return None
    x, y, u, v, price = [integer_of(word) for word in words[2:]]
    # A word that is no integer has become None, which is neither part of a point nor a price.
    if not is_whole_point((x, y, 1)) or not is_whole_point((u, v, 1)) or not is_price(price):
        return None
    if (x, y) == (u, v):
        return None
    return (words[1], (x, y), (u, v), price)


def clashes(fence, earlier):
    """Whether this fence has the name of an earlier one, or more than one point in common with it."""
    a, b = stretch_of(fence)
    for one in earlier:
        c, d = stretch_of(one)
        if one[0] == fence[0] or lie_along(a, b, c, d):
            return True
    return False
