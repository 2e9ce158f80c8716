"""What the tests share: rows to ask of, numbers to ask for, and going through all stretches."""

import itertools
import random

GREAT = 10 ** 12 - 1
FOURTEEN = 10 ** 14 - 1


def rows_to_ask():
    """Rows of none, one and up to sixty numbers, of each kind that the issues name."""
    chance = random.Random(31)

    def drawn(many, *numbers):
        return tuple(chance.choice(numbers) for at in range(many))

    def between(many, wide):
        return tuple(chance.randint(-wide, wide) for at in range(many))

    rows = [(), (0,), (1,), (-1,), (GREAT,), (-GREAT,)]
    rows += [(0,) * 60, (1,) * 60, (-7,) * 60, (1, -1) * 30, (GREAT,) * 60, (-GREAT,) * 60, (GREAT, -GREAT, 0) * 20]
    rows += [drawn(60, 0, 1), drawn(13, 0, 1), drawn(60, 4, 4, 4, 4, 4, -9), drawn(60, -2, -2, -2, -2, 5)]
    rows += [between(many, wide) for many in (2, 17, 60) for wide in (3, 1000, GREAT)]
    rows.append(tuple(range(-30, 30)))
    return rows


def short_rows(longest):
    """Every row of a few small numbers, of no more than so many."""
    for many in range(longest + 1):
        yield from itertools.product((-2, -1, 0, 1, 3), repeat=many)


def every_sum(row):
    """All stretches in order as (sum, stretch), each one's sum reckoned anew."""
    return [
        (sum(row[low:high]), (low, high))
        for low in range(len(row))
        for high in range(low + 1, len(row) + 1)
    ]


def gone_through(pairs, wanted):
    """How many have a wanted sum, all, the first, the longest, the shortest, from what every_sum tells."""
    found = []
    first = longest = shortest = None
    for total, (low, high) in pairs:
        if not wanted(total):
            continue
        found.append((low, high))
        if first is None:
            first = (low, high)
        if longest is None or high - low > longest[1] - longest[0]:
            longest = (low, high)
        if shortest is None or high - low < shortest[1] - shortest[0]:
            shortest = (low, high)
    return len(found), found, first, longest, shortest


def every_apart(many, place=0):
    """Every set of stretches apart of so many numbers, from a place on, as a tuple in order."""
    yield ()
    for low in range(place, many):
        for high in range(low + 1, many + 1):
            for others in every_apart(many, high):
                yield ((low, high),) + others


def apart_with(row, total):
    """Every set of stretches apart that all have the told sum."""
    held = {stretch for own, stretch in every_sum(row) if own == total}
    return [stretches for stretches in APART[len(row)] if held.issuperset(stretches)]


def numbers_in(stretches):
    return sum(high - low for low, high in stretches)


def numbers_to_ask(pairs):
    """Some sums that stand, the ends among them, one more, one less, 0, and numbers of fourteen figures."""
    sums = sorted({total for total, stretch in pairs})
    some = sums[:: max(1, len(sums) // 3)] + sums[-1:]
    numbers = {0, FOURTEEN, -FOURTEEN}
    for total in some:
        numbers |= {total - 1, total, total + 1}
    return sorted(numbers)


def is_stretch(value):
    return type(value) is tuple and [type(place) for place in value] == [int, int]


def is_sum_and_stretch(value):
    return type(value) is tuple and len(value) == 2 and type(value[0]) is int and is_stretch(value[1])


def are_stretches(value):
    return type(value) is tuple and all(is_stretch(stretch) for stretch in value)


# For rows of up to seven numbers: of more there are too many to go through.
APART = [list(every_apart(many)) for many in range(8)]
