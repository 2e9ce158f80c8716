"""Stretches with a told sum that are apart: the most of them, and partings of the whole row."""

from toldsums.rows import length_of
from toldsums.told import all_with

# What there is from a place on is reckoned from the end of the row to its
# begin, so each place finds what it needs behind it and is reckoned but once.


def most_apart(row, total):
    """The most stretches apart with the told sum, a tuple in order; of several as many the first."""
    most = best_from(row, total, lambda stretch: 1)
    chosen = []
    place = 0
    for low, high in all_with(row, total):
        # The first that leaves room for as many behind it as are needed: all
        # tuples in question are as long, so the least pair makes the least one.
        if place <= low and 1 + most[high] == most[place]:
            chosen.append((low, high))
            place = high
    return tuple(chosen)


def most_numbers(row, total):
    """The greatest number of numbers that stretches apart with the told sum have in all."""
    return best_from(row, total, length_of)[0]


def best_from(row, total, worth):
    """For each place, and the end, what the best stretches apart from it on are worth in all."""
    stretches_from = [[] for number in row]
    for stretch in all_with(row, total):
        stretches_from[stretch[0]].append(stretch)
    best = [0] * (len(row) + 1)
    for place in reversed(range(len(row))):
        taken = [worth(stretch) + best[stretch[1]] for stretch in stretches_from[place]]
        best[place] = max(taken + [best[place + 1]])
    return best


def count_partings(row, total):
    """In how many ways the row is parted into stretches with the told sum."""
    return partings_from(row, total)[0]


def first_parting(row, total):
    """The first parting of the row into stretches with the told sum, a tuple, or None."""
    ways = partings_from(row, total)
    if ways[0] == 0:
        return None
    chosen = []
    place = 0
    for low, high in all_with(row, total):
        if low == place and ways[high] > 0:
            chosen.append((low, high))
            place = high
    return tuple(chosen)


def partings_from(row, total):
    """For each place, and the end, in how many ways the numbers from it on are parted."""
    ways = [0] * len(row) + [1]
    for low, high in reversed(all_with(row, total)):
        ways[low] += ways[high]
    return ways
