"""Sums and products of inks, for heaps of spots and for sheets."""


def gathered(pairs):
    """The sums of the inks of each key, without those that are 0; pairs are tuples (key, ink)."""
    sums = {}
    for key, ink in pairs:
        sums[key] = sums.get(key, 0) + ink
    return {key: ink for key, ink in sums.items() if ink != 0}


def multiplied(rows, others):
    """The rows (x, y, ink) of the product of two heaps, given by such rows; some inks may be 0."""
    sums = {}
    for x, y, ink in rows:
        for dx, dy, factor in others:
            place = (x + dx, y + dy)
            sums[place] = sums.get(place, 0) + ink * factor
    return [(x, y, ink) for (x, y), ink in sums.items()]
