"""The stretches of a row in the order of their sums, of alike sums as pairs."""

from toldsums.errors import NoStretch
from toldsums.rows import summed_stretches


def in_order(row, number):
    """The stretch with a number in the order, from 0 on, as (sum, stretch); NoStretch."""
    order = sorted(summed_stretches(row))
    if not 0 <= number < len(order):
        raise NoStretch("no stretch of the row has this number in the order")
    return order[number]


def count_below(row, total):
    """How many stretches have a sum less than the told number."""
    return len([own for own, stretch in summed_stretches(row) if own < total])


def nearest(row, total):
    """The first stretch with the sum nearest to the told number, as (sum, stretch), or None."""
    # Behind the distance the pair itself: of two sums as near it puts the
    # lesser one ahead, of alike sums the first stretch.
    return min(summed_stretches(row), key=lambda pair: (abs(pair[0] - total), pair), default=None)


def ends_of(row):
    """The least and the greatest sum, each as (sum, first stretch), or None of no numbers."""
    pairs = summed_stretches(row)
    if not pairs:
        return None
    # The whole pair must not be compared for the greatest: of alike sums that
    # would tell the last stretch.
    return (min(pairs), max(pairs, key=lambda pair: pair[0]))
