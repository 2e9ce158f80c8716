"""Papers that show what is told of stretches, and lookers that let by only what holds."""

from toldsums.bounds import count_within
from toldsums.rows import sum_of, sums_ahead
from toldsums.told import all_with


def points_of(row, total):
    """Points that hit all stretches with the told sum, as many as there are stretches apart, a tuple."""
    points = []
    for low, high in sorted(all_with(row, total), key=lambda stretch: stretch[1]):
        # A stretch that no point hits yet begins behind all that made a point,
        # so these are apart: there are no more points than stretches apart.
        if not points or points[-1] < low:
            points.append(high - 1)
    return tuple(points)


def points_shown(row, total, points):
    """Whether these are points of the row that hit all stretches with the told sum."""
    if not are_points(row, points):
        return False
    return all([is_hit(stretch, points) for stretch in all_with(row, total)])


def are_points(row, points):
    """Whether these are places of the row's numbers, rising, each once."""
    within = all([0 <= point < len(row) for point in points])
    return within and all([point < after for point, after in zip(points, points[1:])])


def is_hit(stretch, points):
    """Whether a stretch has one of the points within it."""
    low, high = stretch
    return any([low <= point < high for point in points])


def apart_shown(row, total, stretches):
    """Whether these are stretches of the row with the told sum, apart and in order."""
    place = 0
    for low, high in stretches:
        if not place <= low < high <= len(row):
            return False
        if sum_of(row, (low, high)) != total:
            return False
        place = high
    return True


def none_paper(row, low, high):
    """The paper that no stretch has a sum from low to high, a tuple; None where one has."""
    if count_within(row, low, high) > 0:
        return None
    return places_by_sum(row)


def none_shown(row, low, high, paper):
    """Whether this is the paper that no stretch has a sum from low to high, and none has."""
    return paper == places_by_sum(row) and count_within(row, low, high) == 0


def places_by_sum(row):
    """The places, the end among them, in the order of the sums ahead, of alike sums the lesser one first."""
    ahead = sums_ahead(row)
    return tuple(sorted(range(len(ahead)), key=lambda place: (ahead[place], place)))
