"""Half pieces and rounds (section 6)."""

from ringsorways.layout import layout_of


def nexts(drawing):
    """The numbers of the next half pieces, half piece by half piece."""
    return layout_of(drawing).nexts


def rounds(drawing):
    """All rounds, each the tuple of its half pieces."""
    return layout_of(drawing).rounds
