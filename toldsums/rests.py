"""The stretches of a row whose sum leaves a told rest by a number m."""

from toldsums.errors import NoRest
from toldsums.rows import first_of, longest_of, shortest_of, summed_stretches


def look_at_rest(m, rest):
    """NoRest where m is below 1, or the rest is none by m."""
    # By an m below 1 no number is from 0 to m - 1, so this refuses such m, too.
    if not 0 <= rest < m:
        raise NoRest("m is from 1 on, a rest by it from 0 to m - 1")


def all_rest(row, m, rest):
    """All stretches with the told rest by m, a list in order; NoRest."""
    look_at_rest(m, rest)
    return [stretch for own, stretch in summed_stretches(row) if own % m == rest]


def count_rest(row, m, rest):
    """How many stretches have the told rest by m; NoRest."""
    return len(all_rest(row, m, rest))


def first_rest(row, m, rest):
    """The first stretch with the told rest by m, or None; NoRest."""
    return first_of(all_rest(row, m, rest))


def longest_rest(row, m, rest):
    """The first of the longest stretches with the told rest by m, or None; NoRest."""
    return longest_of(all_rest(row, m, rest))


def shortest_rest(row, m, rest):
    """The first of the shortest stretches with the told rest by m, or None; NoRest."""
    return shortest_of(all_rest(row, m, rest))


def counts_by_rest(row, m):
    """For each rest by m how many stretches have it, a tuple; NoRest."""
    # 0 is a rest by every m from 1 on, so only m can be refused here.
    look_at_rest(m, 0)
    counts = [0] * m
    for own, stretch in summed_stretches(row):
        counts[own % m] += 1
    return tuple(counts)
