"""The stretches of a row that have a told sum."""

from toldsums.rows import length_of, stretches_of, sums_ahead


def all_with(row, total):
    """All stretches with the told sum, a list in order."""
    ahead = sums_ahead(row)
    return [(low, high) for low, high in stretches_of(row) if ahead[high] - ahead[low] == total]


def count_with(row, total):
    """How many stretches have the told sum."""
    return len(all_with(row, total))


def first_with(row, total):
    """The first stretch with the told sum, or None."""
    return min(all_with(row, total), default=None)


# Of several as long, max and min keep the one that stands first, and the list
# is in order: so it is the least as a pair.


def longest_with(row, total):
    """The first of the longest stretches with the told sum, or None."""
    return max(all_with(row, total), key=length_of, default=None)


def shortest_with(row, total):
    """The first of the shortest stretches with the told sum, or None."""
    return min(all_with(row, total), key=length_of, default=None)
