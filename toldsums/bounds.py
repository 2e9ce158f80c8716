"""The stretches of a row whose sum lies within bounds; the bounds themselves are within."""

from toldsums.rows import first_of, longest_of, shortest_of, summed_stretches


def all_within(row, low, high):
    """All stretches with a sum from low to high, a list in order."""
    return [stretch for own, stretch in summed_stretches(row) if low <= own <= high]


def count_within(row, low, high):
    """How many stretches have a sum from low to high."""
    return len(all_within(row, low, high))


def first_within(row, low, high):
    """The first stretch with a sum from low to high, or None."""
    return first_of(all_within(row, low, high))


def longest_within(row, low, high):
    """The first of the longest stretches with a sum from low to high, or None."""
    return longest_of(all_within(row, low, high))


def shortest_within(row, low, high):
    """The first of the shortest stretches with a sum from low to high, or None."""
    return shortest_of(all_within(row, low, high))


def shortest_from(row, low):
    """The first of the shortest stretches with a sum of at least low, or None."""
    return shortest_of([stretch for own, stretch in summed_stretches(row) if own >= low])


def longest_to(row, high):
    """The first of the longest stretches with a sum of at most high, or None."""
    return longest_of([stretch for own, stretch in summed_stretches(row) if own <= high])
