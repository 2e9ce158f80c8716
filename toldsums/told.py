"""The stretches of a row that have a told sum."""

from toldsums.rows import first_of, longest_of, shortest_of, summed_stretches


def all_with(row, total):
    """All stretches with the told sum, a list in order."""
    return [stretch for own, stretch in summed_stretches(row) if own == total]


def count_with(row, total):
    """How many stretches have the told sum."""
    return len(all_with(row, total))


def first_with(row, total):
    """The first stretch with the told sum, or None."""
    return first_of(all_with(row, total))


def longest_with(row, total):
    """The first of the longest stretches with the told sum, or None."""
    return longest_of(all_with(row, total))


def shortest_with(row, total):
    """The first of the shortest stretches with the told sum, or None."""
    return shortest_of(all_with(row, total))
