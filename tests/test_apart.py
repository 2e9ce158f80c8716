import inspect
import itertools
import unittest

from asked import (
    APART, FOURTEEN, GREAT, apart_with, are_stretches, every_sum, numbers_in, numbers_to_ask, rows_to_ask, short_rows,
)
from toldsums.apart import count_partings, first_parting, most_apart, most_numbers

ROW = (3, -1, 2, -2, 3)
ASKED = (most_apart, count_partings, first_parting, most_numbers)


def told(row, total):
    return tuple(function(row, total) for function in ASKED)


def gone_through(row, total):
    """What going through all sets of stretches apart tells."""
    sets = apart_with(row, total)
    many = max(len(stretches) for stretches in sets)
    partings = [stretches for stretches in sets if numbers_in(stretches) == len(row)]
    return (
        min(stretches for stretches in sets if len(stretches) == many),
        len(partings),
        min(partings, default=None),
        max(numbers_in(stretches) for stretches in sets),
    )


def stretches_with(row, total):
    return [stretch for own, stretch in every_sum(row) if own == total]


def many_behind(stretches, place):
    """How many can be apart from a place on: always the one that ends first is taken."""
    many = 0
    for low, high in sorted(stretches, key=lambda stretch: stretch[1]):
        if low >= place:
            many += 1
            place = high
    return many


def ways_to_the_end(row, total):
    """In how many ways a row is parted, reckoned from its begin to its end."""
    ways = [1]
    for high in range(1, len(row) + 1):
        ways.append(sum(ways[low] for low in range(high) if sum(row[low:high]) == total))
    return ways[-1]


def most_to_the_end(row, total):
    """How many numbers stretches apart have, reckoned from the row's begin to its end."""
    most = [0]
    for high in range(1, len(row) + 1):
        taken = [most[low] + high - low for low in range(high) if sum(row[low:high]) == total]
        most.append(max(taken + [most[-1]]))
    return most[-1]


def singles(many):
    return tuple((at, at + 1) for at in range(many))


def pieces(many, wide):
    return tuple((at, at + wide) for at in range(0, many, wide))


class Sets(unittest.TestCase):
    def test_the_sets_gone_through_are_all(self):
        for many in range(5):
            stretches = [stretch for own, stretch in every_sum((0,) * many)]
            found = []
            for size in range(len(stretches) + 1):
                for chosen in itertools.combinations(stretches, size):
                    places = [place for low, high in chosen for place in range(low, high)]
                    if len(places) == len(set(places)):
                        found.append(chosen)
            self.assertEqual(sorted(found), sorted(APART[many]))


class MostApart(unittest.TestCase):
    def test_by_hand(self):
        for row, total, answer in (
            (ROW, 2, ((0, 2), (2, 3))),
            # The first as tuples, though (4, 5) ends no later.
            (ROW, 3, ((0, 1), (2, 5))),
            (ROW, 0, ((2, 4),)),
            (ROW, 5, ((0, 5),)),
            (ROW, 1, ((1, 3), (3, 5))),
            (ROW, 6, ()),
            (ROW, FOURTEEN, ()),
            ((), 0, ()),
            ((), 7, ()),
            ((4,), 4, ((0, 1),)),
            ((4,), 0, ()),
            ((0,), 0, ((0, 1),)),
            # The first one there is would leave room for fewer.
            ((2, -1, 1, 1, -1), 1, ((0, 2), (2, 3), (3, 4))),
            ((1, 1, 1, -1, 2, 2), 2, ((0, 2), (2, 5), (5, 6))),
            ((5, -5, 5, -5), 0, ((0, 2), (2, 4))),
            # Noughts ahead make the first longer, behind not.
            ((0, 1, 0), 1, ((0, 2),)),
            ((0, 1, 0, 1), 1, ((0, 2), (2, 4))),
            ((1, 0, 1), 1, ((0, 1), (1, 3))),
            ((7, 7, 7, 7, 7), 14, ((0, 2), (2, 4))),
            ((0,) * 60, 0, singles(60)),
            ((-7,) * 60, -7, singles(60)),
            ((1,) * 60, 7, pieces(56, 7)),
            ((1, -1) * 30, 0, pieces(60, 2)),
            ((GREAT,) * 60, 60 * GREAT, ((0, 60),)),
            ((GREAT,) * 60, 31 * GREAT, ((0, 31),)),
            ((-GREAT,) * 60, -30 * GREAT, ((0, 30), (30, 60))),
            ((0,) * 60, 1, ()),
        ):
            with self.subTest(row=row, total=total):
                self.assertEqual(most_apart(row, total), answer)

    def test_a_first_that_leaves_room_for_fewer_is_left_out(self):
        # (0, 5) is the first with the sum 3, but two are apart only without it.
        row = (1, 3, -3, 3, -1)
        self.assertEqual(stretches_with(row, 3), [(0, 5), (1, 2), (1, 4), (3, 4)])
        self.assertEqual(most_apart(row, 3), ((1, 2), (3, 4)))
        # Two are apart with (0, 4), too, so it stays, though (1, 2) ends ahead of it.
        row = (1, 3, -3, 2, 3)
        self.assertEqual(stretches_with(row, 3), [(0, 4), (1, 2), (4, 5)])
        self.assertEqual(most_apart(row, 3), ((0, 4), (4, 5)))

    def test_rows_of_each_kind(self):
        for row in rows_to_ask():
            for total in numbers_to_ask(every_sum(row)):
                self.look_at(row, total)

    def look_at(self, row, total):
        stretches = stretches_with(row, total)
        chosen = most_apart(row, total)
        self.assertEqual(len(chosen), many_behind(stretches, 0), (row, total))
        place = 0
        for at, (low, high) in enumerate(chosen):
            self.assertLessEqual(place, low, (row, total))
            self.assertIn((low, high), stretches, (row, total))
            for other in stretches:
                if place <= other[0] and other < (low, high):
                    self.assertLess(at + 1 + many_behind(stretches, other[1]), len(chosen), (row, total, other))
            place = high


class Partings(unittest.TestCase):
    def test_by_hand(self):
        for row, total, ways, first in (
            ((), 0, 1, ()),
            ((), 7, 1, ()),
            ((), -FOURTEEN, 1, ()),
            ((4,), 4, 1, ((0, 1),)),
            ((4,), 0, 0, None),
            ((0,), 0, 1, ((0, 1),)),
            (ROW, 5, 1, ((0, 5),)),
            (ROW, 2, 0, None),
            (ROW, 0, 0, None),
            ((1, 2, 3, 3), 3, 1, ((0, 2), (2, 3), (3, 4))),
            # Stretches apart there are, but a number is in none.
            ((3, 3, 1), 3, 0, None),
            ((1, 3, 3), 3, 0, None),
            ((3, 1, 3), 3, 0, None),
            ((0, 0, 0), 0, 4, ((0, 1), (1, 2), (2, 3))),
            ((1, 0, 1), 1, 2, ((0, 1), (1, 3))),
            ((0, 1, 0), 1, 1, ((0, 3),)),
            ((1, 0, 0, 1), 1, 3, ((0, 1), (1, 4))),
            ((1, -1, 1), 1, 1, ((0, 3),)),
            # The least end there is leads nowhere.
            ((2, 1, -1, 2), 2, 2, ((0, 1), (1, 4))),
            ((2, -2, 2, 5, -3), 2, 2, ((0, 1), (1, 5))),
            ((0,) * 60, 0, 2 ** 59, singles(60)),
            ((0,) * 60, 1, 0, None),
            ((1, -1) * 30, 0, 2 ** 29, pieces(60, 2)),
            ((1,) * 60, 1, 1, singles(60)),
            ((1,) * 60, 7, 0, None),
            ((-7,) * 60, -35, 1, pieces(60, 5)),
            ((GREAT,) * 60, 60 * GREAT, 1, ((0, 60),)),
            ((GREAT,) * 60, 59 * GREAT, 0, None),
            ((1, 0, 0, 0, 0, 0) * 10, 1, 6 ** 9, ((0, 1),) + tuple((at, at + 6) for at in range(1, 49, 6)) + ((49, 60),)),
        ):
            with self.subTest(row=row, total=total):
                if first is not None:
                    self.assertEqual(tuple(place for low, high in first for place in range(low, high)),
                                     tuple(range(len(row))))
                self.assertEqual(count_partings(row, total), ways)
                self.assertEqual(first_parting(row, total), first)

    def test_every_cut(self):
        for many in range(1, 7):
            for row in itertools.product((-1, 0, 1), repeat=many):
                for total in (-1, 0, 1):
                    found = []
                    for cuts in itertools.product((False, True), repeat=many - 1):
                        places = [0] + [at + 1 for at, cut in enumerate(cuts) if cut] + [many]
                        parting = tuple(zip(places, places[1:]))
                        if all(sum(row[low:high]) == total for low, high in parting):
                            found.append(parting)
                    self.assertEqual(count_partings(row, total), len(found), (row, total))
                    self.assertEqual(first_parting(row, total), min(found, default=None), (row, total))

    def test_rows_of_each_kind(self):
        for row in rows_to_ask():
            for total in numbers_to_ask(every_sum(row)):
                self.look_at(row, total)

    def test_rows_put_together_of_pieces(self):
        for total, parts in (
            (5, ((5,), (2, 3), (-1, 6), (5, 0), (0, 5), (5, -5, 5))),
            (0, ((0,), (1, -1), (-3, 2, 1), (0, 0))),
            (-GREAT, ((-GREAT,), (1 - GREAT, -1), (GREAT, -GREAT, -GREAT))),
        ):
            for order in itertools.permutations(parts):
                row = tuple(number for part in order * 3 for number in part)
                self.assertGreater(count_partings(row, total), 0, row)
            self.look_at(row, total)
            self.look_at(row + (1,), total)

    def look_at(self, row, total):
        ways = ways_to_the_end(row, total)
        self.assertEqual(count_partings(row, total), ways, (row, total))
        first = first_parting(row, total)
        self.assertEqual(first is None, ways == 0, (row, total))
        place = 0
        for low, high in first or ():
            self.assertEqual(low, place, (row, total))
            self.assertEqual(sum(row[low:high]), total, (row, total))
            for other in range(low + 1, high):
                if sum(row[low:other]) == total:
                    self.assertEqual(ways_to_the_end(row[other:], total), 0, (row, total, other))
            place = high
        if first is not None:
            self.assertEqual(place, len(row), (row, total))


class MostNumbers(unittest.TestCase):
    def test_by_hand(self):
        for row, total, answer in (
            ((), 0, 0), ((), 5, 0), ((4,), 4, 1), ((4,), 0, 0), ((0,), 0, 1),
            (ROW, 2, 4), (ROW, 3, 4), (ROW, 0, 2), (ROW, 5, 5), (ROW, 6, 0),
            ((0, 1, 0), 1, 3),
            # Fewer stretches that have more numbers.
            ((1, 3, -3, 3, -1), 3, 5),
            ((9, 2, 9, 2, 9), 2, 2),
            ((0,) * 60, 0, 60), ((0,) * 60, 1, 0), ((1,) * 60, 7, 56), ((1,) * 60, 31, 31), ((1, -1) * 30, 0, 60),
            ((1, -1) * 30, 1, 59), ((GREAT,) * 60, 60 * GREAT, 60), ((GREAT,) * 60, 29 * GREAT, 58),
        ):
            with self.subTest(row=row, total=total):
                self.assertEqual(most_numbers(row, total), answer)

    def test_rows_of_each_kind(self):
        for row in rows_to_ask():
            for total in numbers_to_ask(every_sum(row)):
                self.assertEqual(most_numbers(row, total), most_to_the_end(row, total), (row, total))


class GoneThrough(unittest.TestCase):
    """All four held against going through all sets of stretches apart."""

    def test_every_short_row(self):
        for row in short_rows(5):
            for total in range(-3, 5):
                self.assertEqual(told(row, total), gone_through(row, total), (row, total))

    def test_rows_of_six_and_seven(self):
        for many in (6, 7):
            for row in itertools.product((-1, 0, 1), repeat=many):
                for total in (-1, 0, 1, 2):
                    self.assertEqual(told(row, total), gone_through(row, total), (row, total))


class Interface(unittest.TestCase):
    def test_arguments(self):
        for function in ASKED:
            self.assertEqual(list(inspect.signature(function).parameters), ["row", "total"])

    def test_kinds(self):
        for row in (ROW, (0, 0), (4,), ()):
            for total in (0, 2, 4, 99):
                apart, ways, first, numbers = told(row, total)
                self.assertTrue(are_stretches(apart))
                self.assertIs(type(ways), int)
                self.assertTrue(first is None or are_stretches(first))
                self.assertIs(type(numbers), int)

    def test_somewhat_beyond_the_bounds_nothing_is_refused(self):
        row = (10 ** 13, -(10 ** 13)) * 40
        self.assertEqual(told(row, 0), (pieces(80, 2), 2 ** 39, pieces(80, 2), 80))
        self.assertEqual(told(row, 10 ** 16), ((), 0, None, 0))
        self.assertEqual(told((0,) * 100, 0), (singles(100), 2 ** 99, singles(100), 100))


class Alike(unittest.TestCase):
    def test_asked_again(self):
        row = tuple([1, -1, 1, 0])
        before = [told(row, total) for total in (0, 1, 5)]
        told((1, 1), 1)
        told((), 0)
        self.assertEqual([told(row, total) for total in (0, 1, 5)], before)
        self.assertEqual([told(row, total) for total in (0, 1, 5)], before)
        self.assertEqual(row, (1, -1, 1, 0))


if __name__ == "__main__":
    unittest.main()
