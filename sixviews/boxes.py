"""Boxes (left, bottom, right, top) of places; None is the box of nothing."""


def box_around(boxes):
    """The smallest box that contains all these boxes."""
    full = [box for box in boxes if box is not None]
    if not full:
        return None
    return (
        min([left for left, bottom, right, top in full]),
        min([bottom for left, bottom, right, top in full]),
        max([right for left, bottom, right, top in full]),
        max([top for left, bottom, right, top in full]),
    )


def places_in(box):
    """The number of the places in the box."""
    if box is None:
        return 0
    left, bottom, right, top = box
    return max(0, right - left + 1) * max(0, top - bottom + 1)


def lies_in(box, x, y):
    """True if the place (x, y) lies in the box."""
    left, bottom, right, top = box
    return left <= x <= right and bottom <= y <= top
