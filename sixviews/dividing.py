"""The division of heaps."""

from heapq import heapify, heappop, heappush

from sixviews.boxes import lies_in, places_in
from sixviews.errors import NoSpots, TooHeavy, Undivided
from sixviews.spots import Spots

_MOST_PLACES = 400


def divided(spots, divisor):
    """The heap that gives `spots` when it is multiplied by the divisor."""
    if not divisor:
        raise NoSpots()
    if not spots:
        return Spots()
    box = quotient_box(spots, divisor)
    places = places_in(box)
    if places > _MOST_PLACES:
        raise TooHeavy(places)
    quotient, rest = _long_division(spots, divisor, box)
    if rest:
        raise Undivided(quotient, rest)
    return quotient


def quotient_box(spots, divisor):
    """The bounds (left, bottom, right, top) of the quotient box."""
    return tuple([of_spots - of_divisor for of_spots, of_divisor in zip(spots.box(), divisor.box())])


def _long_division(spots, divisor, box):
    """The quotient and the rest; the greatest place of the rest is done away with until that is impossible."""
    last_x, last_y, lead = list(divisor)[-1]
    inks = {(x, y): ink for x, y, ink in spots}
    # heappop gives the least, so the places stand in the queue with opposite signs.
    queue = [(-x, -y) for x, y in inks]
    heapify(queue)
    found = []
    while queue:
        minus_x, minus_y = heappop(queue)
        ink = inks[(-minus_x, -minus_y)]
        if ink == 0:
            continue
        x, y = -minus_x - last_x, -minus_y - last_y
        if ink % lead != 0 or not lies_in(box, x, y):
            break
        factor = ink // lead
        found.append((x, y, factor))
        for dx, dy, its_ink in divisor:
            place = (x + dx, y + dy)
            if place not in inks:
                inks[place] = 0
                heappush(queue, (-x - dx, -y - dy))
            inks[place] = inks[place] - factor * its_ink
    return Spots(found), Spots([(x, y, ink) for (x, y), ink in inks.items()])
