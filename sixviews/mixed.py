"""The mixed number of two pens."""

from sixviews.pens import check_drawn


def mixed(first, second):
    """The mixed number of two pens."""
    return sum([side * reach for side, reach in zip(first.sides(), second.reaches)])


def spare(first, second):
    """The square of the mixed number minus the product of the areas of two drawn pens."""
    check_drawn(first)
    check_drawn(second)
    number = mixed(first, second)
    return number * number - first.area * second.area


def same_ratio(first, second):
    """True if the sides of the two drawn pens are in one ratio."""
    check_drawn(first)
    check_drawn(second)
    sides, others = first.sides(), second.sides()
    return all([sides[i] * others[j] == sides[j] * others[i] for i in range(6) for j in range(i)])
