"""A field (section 16): a drawing under hands."""

from ringsorways.cheapest import cheapest
from ringsorways.deeds import state_after
from ringsorways.drawings import HEAD, Drawing
from ringsorways.errors import BadMark, BadNumber, FenceError, Leans, NothingToRedo, NothingToUndo, NoTrial
from ringsorways.parting import parting
from ringsorways.values import is_number_below


class Trial:
    """A block behind which a field is as it was when the block was entered, unless it was kept."""

    def __init__(self, field):
        self.field = field
        self.kept = None

    def __enter__(self):
        field = self.field
        self.outer = field.block
        self.drawing = field.drawing
        self.marks = field.marks
        self.done = field.done
        self.deeds = field.deeds
        self.states = field.states
        self.undone = field.undone
        field.block = self
        return field

    def __exit__(self, kind, value, trace):
        field = self.field
        field.block = self.outer
        if kind is not None or self.kept is None:
            field.drawing = self.drawing
            field.marks = self.marks
            field.done = self.done
            field.deeds = self.deeds
            field.states = self.states
            field.undone = self.undone


class Field:
    """A drawing, with marks in it, and all the deeds that led to it."""

    def __init__(self):
        # The innermost block that was entered and not left; None outside of all.
        self.block = None
        self.stand((), ((Drawing(HEAD), ()),), ())

    def stand(self, deeds, states, undone):
        """Let these deeds stand.

        states has (drawing, marks) behind so many of them, from none on; undone has (deed, state
        behind it) for what can be done again, the next one last.
        """
        self.deeds = deeds
        self.states = states
        self.undone = undone
        self.drawing, self.marks = states[-1]
        self.done = len(deeds)

    def __eq__(self, other):
        return isinstance(other, Field) and self.deeds == other.deeds

    def do(self, deed):
        """Do this deed, told as in the module deeds."""
        self.stand(self.deeds + (deed,), self.states + (state_after(self.states[-1], deed),), ())

    def put(self, line):
        """One fence more, as this line tells it."""
        self.do(("put", line))

    def take(self, name):
        """The fence of this name goes."""
        self.do(("take", name))

    def price(self, name, number):
        """The fence of this name has this price from now on."""
        self.do(("price", name, number))

    def lead(self, name, end, point):
        """This end of the fence of this name stands at the point from now on."""
        self.do(("lead", name, end, point))

    def mark(self, spot):
        """One mark more."""
        self.do(("mark", spot))

    def strike(self, number):
        """The field is as if the deed of this number had never been done."""
        if not is_number_below(number, self.done):
            raise BadNumber(number)
        states = list(self.states[:number + 1])
        for place in range(number + 1, self.done):
            try:
                states.append(state_after(states[-1], self.deeds[place]))
            except FenceError:
                raise Leans(place) from None
        self.stand(self.deeds[:number] + self.deeds[number + 1:], tuple(states), ())

    def elder(self, number):
        """The Drawing as it was behind so many deeds."""
        if not is_number_below(number, self.done + 1):
            raise BadNumber(number)
        return self.states[number][0]

    def mark_of(self, number):
        """The mark of this number."""
        if not is_number_below(number, len(self.marks)):
            raise BadMark(number)
        return self.marks[number]

    def apart(self, i, j):
        """What parting tells of two marks."""
        return parting(self.drawing, self.mark_of(i), self.mark_of(j))

    def cost(self, i, j):
        """The cost that cheapest tells of two marks."""
        return cheapest(self.drawing, self.mark_of(i), self.mark_of(j))[0]

    def undo(self):
        """Take the last deed back."""
        if self.done == 0:
            raise NothingToUndo(None)
        taken = (self.deeds[-1], self.states[-1])
        self.stand(self.deeds[:-1], self.states[:-1], self.undone + (taken,))

    def redo(self):
        """Do the deed again that was taken back last."""
        if len(self.undone) == 0:
            raise NothingToRedo(None)
        deed, state = self.undone[-1]
        self.stand(self.deeds + (deed,), self.states + (state,), self.undone[:-1])

    def trial(self):
        """A block, to be entered by with, behind which the field is as it was, unless keep is called in it."""
        return Trial(self)

    def keep(self):
        """Keep what the innermost block leads to."""
        block = self.block
        if block is None:
            raise NoTrial(None)
        block.kept = True

    def tried(self, look, *, keep=False):
        """What look returns, called with the field in a block, which is kept if keep is True."""
        with self.trial() as held:
            told = look(held)
            if keep is True:
                self.keep()
        return told

    def copy(self):
        """An independent field, alike in all things, outside of all blocks."""
        twin = Field()
        twin.stand(self.deeds, self.states, self.undone)
        return twin
