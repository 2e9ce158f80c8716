import inspect
import itertools
import unittest

from asked import FOURTEEN, GREAT, apart_with, every_sum, numbers_to_ask, rows_to_ask, short_rows
from toldsums.apart import most_apart
from toldsums.papers import apart_shown, none_paper, none_shown, points_of, points_shown

ROW = (3, -1, 2, -2, 3)
BEYOND = 10 ** 5000


def hit_all(row, total, points):
    """Whether these are points that hit all, by the words of the document."""
    if any(point not in range(len(row)) for point in points) or list(points) != sorted(set(points)):
        return False
    for own, (low, high) in every_sum(row):
        if own == total and not set(range(low, high)) & set(points):
            return False
    return True


def stand_apart(row, total, stretches):
    """Whether these are stretches apart with the told sum, in order, by the words of the document."""
    held = [stretch for own, stretch in every_sum(row) if own == total]
    if any(stretch not in held for stretch in stretches) or list(stretches) != sorted(stretches):
        return False
    places = [place for low, high in stretches for place in range(low, high)]
    return len(places) == len(set(places))


def is_order(row, paper):
    """Whether this is the order by the sums ahead, of alike sums the lesser place first."""
    if sorted(paper) != list(range(len(row) + 1)):
        return False
    for place, after in zip(paper, paper[1:]):
        if sum(row[:place]) > sum(row[:after]) or sum(row[:place]) == sum(row[:after]) and place > after:
            return False
    return True


def one_within(row, low, high):
    return any(low <= own <= high for own, stretch in every_sum(row))


class Points(unittest.TestCase):
    def look_at(self, row, total, many):
        points = points_of(row, total)
        self.assertEqual(len(points), many, (row, total))
        self.assertTrue(hit_all(row, total, points), (row, total))
        self.assertIs(points_shown(row, total, points), True, (row, total))

    def test_every_short_row(self):
        for row in short_rows(5):
            for total in range(-3, 5):
                self.look_at(row, total, max(len(stretches) for stretches in apart_with(row, total)))

    def test_rows_of_each_kind(self):
        for row in rows_to_ask():
            for total in numbers_to_ask(every_sum(row)):
                self.look_at(row, total, len(most_apart(row, total)))

    def test_by_hand(self):
        self.assertEqual(points_of((), 0), ())
        self.assertEqual(points_of((), 5), ())
        self.assertEqual(points_of(ROW, 6), ())
        self.assertEqual(points_of((4,), 4), (0,))
        self.assertEqual(points_of((0,) * 60, 0), tuple(range(60)))
        self.assertEqual(len(points_of(ROW, 3)), 2)
        self.assertEqual(len(points_of((1,) * 60, 31)), 1)


class PointsLooker(unittest.TestCase):
    def test_by_hand(self):
        # With the sum 3 are (0, 1), (2, 5) and (4, 5).
        for points, answer in (
            ((0, 4), True),
            # More than need be.
            ((0, 1, 4), True), ((0, 1, 2, 3, 4), True), ((0, 2, 4), True),
            # Too few, or not where they should be.
            ((), False), ((0,), False), ((4,), False), ((0, 2), False), ((0, 3), False), ((1, 4), False),
            ((1, 2, 3, 4), False),
            # Not rising, one twice.
            ((4, 0), False), ((0, 4, 1), False), ((0, 4, 3), False), ((1, 0, 4), False), ((0, 0, 4), False),
            ((0, 4, 4), False), ((0, 2, 2, 4), False),
            # Below 0, beyond the row.
            ((-1, 0, 4), False), ((-5, 0, 4), False), ((0, -1), False), ((-5, -1), False), ((0, 4, 5), False),
            ((0, 4, 6), False), ((0, 4, BEYOND), False), ((-BEYOND, 0, 4), False), ((5,), False),
        ):
            with self.subTest(points=len(points), answer=answer):
                self.assertIs(points_shown(ROW, 3, points), answer)

    def test_where_no_stretch_has_the_sum(self):
        for points, answer in (((), True), ((0,), True), ((0, 4), True), ((4, 0), False), ((5,), False), ((-1,), False)):
            self.assertIs(points_shown(ROW, 6, points), answer, points)

    def test_a_row_of_no_numbers(self):
        for total in (0, 7, -FOURTEEN):
            self.assertIs(points_shown((), total, ()), True)
            for points in ((0,), (-1,), (1,), (0, 1), (0, 0)):
                self.assertIs(points_shown((), total, points), False, points)

    def test_every_tuple_of_points(self):
        for row in short_rows(3):
            for size in range(4):
                for points in itertools.product(range(-1, len(row) + 2), repeat=size):
                    for total in (-1, 0, 1, 3):
                        answer = hit_all(row, total, points)
                        self.assertIs(points_shown(row, total, points), answer, (row, total, points))

    def test_one_point_fewer_never_hits_all(self):
        for row in rows_to_ask():
            for total in numbers_to_ask(every_sum(row)):
                points = points_of(row, total)
                for at in range(len(points)):
                    self.assertIs(points_shown(row, total, points[:at] + points[at + 1:]), False, (row, total))
                self.assertIs(points_shown(row, total, tuple(range(len(row)))), True, (row, total))
                self.assertIs(points_shown(row, total, tuple(range(len(row) + 1))), False, (row, total))


class ApartLooker(unittest.TestCase):
    def test_by_hand(self):
        # With the sum 2 are (0, 2), (0, 4), (1, 5) and (2, 3), with the sum 3 (0, 1), (2, 5) and (4, 5).
        for total, stretches, answer in (
            (2, (), True), (2, ((0, 2),), True), (2, ((0, 2), (2, 3)), True), (2, ((1, 5),), True),
            (3, ((0, 1), (2, 5)), True), (3, ((0, 1), (4, 5)), True), (3, ((2, 5),), True),
            (6, (), True),
            # Not in order.
            (2, ((2, 3), (0, 2)), False), (3, ((4, 5), (0, 1)), False),
            # A place in two.
            (2, ((0, 4), (2, 3)), False), (2, ((0, 2), (1, 5)), False), (2, ((0, 2), (0, 4)), False),
            (3, ((2, 5), (4, 5)), False), (3, ((0, 1), (0, 1)), False), (3, ((0, 1), (2, 5), (4, 5)), False),
            # Another sum.
            (3, ((0, 2), (2, 3)), False), (2, ((0, 2), (2, 4)), False), (2, ((0, 1), (2, 3)), False),
            (-2, ((0, 2),), False), (0, ((0, 1),), False), (6, ((0, 5),), False),
            # No stretches of the row: turned about, empty, below 0, beyond.
            (2, ((2, 0),), False), (3, ((1, 0),), False), (0, ((1, 1),), False), (0, ((0, 0),), False),
            (0, ((5, 5),), False), (2, ((0, 2), (2, 2), (2, 3)), False), (3, ((-1, 5),), False), (3, ((-1, 1),), False),
            (-2, ((-2, -1),), False), (0, ((-1, 0),), False), (3, ((4, 6),), False), (3, ((2, 6),), False),
            (0, ((5, 6),), False), (0, ((6, 7),), False), (3, ((0, 1), (4, BEYOND)), False), (0, ((-BEYOND, 0),), False),
            (3, ((0, 1), (5, 4)), False), (2, ((2, 3), (-5, -3)), False),
        ):
            with self.subTest(total=total, stretches=len(stretches), answer=answer):
                self.assertIs(apart_shown(ROW, total, stretches), answer)

    def test_a_row_of_no_numbers(self):
        for total in (0, 7):
            self.assertIs(apart_shown((), total, ()), True)
            for stretch in ((0, 0), (0, 1), (-1, 0), (1, 0), (1, 2)):
                self.assertIs(apart_shown((), total, (stretch,)), False, stretch)

    def test_every_tuple_of_pairs(self):
        places = range(-1, 4)
        pairs = list(itertools.product(places, repeat=2))
        for row in short_rows(2):
            for size in range(3):
                for stretches in itertools.product(pairs, repeat=size):
                    for total in (0, 1):
                        answer = stand_apart(row, total, stretches)
                        self.assertIs(apart_shown(row, total, stretches), answer, (row, total, stretches))

    def test_every_order_of_stretches(self):
        for row in ((0, 0, 0), (1, 0, 1), (1, -1, 1), (0, 1, -1)):
            stretches = [stretch for own, stretch in every_sum(row)]
            for size in range(4):
                for chosen in itertools.permutations(stretches, size):
                    for total in (0, 1):
                        answer = stand_apart(row, total, chosen)
                        self.assertIs(apart_shown(row, total, chosen), answer, (row, total, chosen))

    def test_what_most_apart_tells_is_let_by(self):
        for row in rows_to_ask():
            for total in numbers_to_ask(every_sum(row)):
                stretches = most_apart(row, total)
                self.assertIs(apart_shown(row, total, stretches), True, (row, total))
                self.assertIs(apart_shown(row, total, stretches[1:]), True, (row, total))
                if stretches:
                    self.assertIs(apart_shown(row, total + 1, stretches), False, (row, total))
                    self.assertIs(apart_shown(row, total, stretches + stretches[-1:]), False, (row, total))
                if len(stretches) > 1:
                    self.assertIs(apart_shown(row, total, stretches[::-1]), False, (row, total))


class NonePaper(unittest.TestCase):
    def test_by_hand(self):
        # The sums ahead are 0, 3, 2, 4, 2, 5.
        order = (0, 2, 4, 1, 3, 5)
        for row, low, high, answer in (
            (ROW, 6, 99, order), (ROW, -99, -3, order), (ROW, 6, 6, order), (ROW, FOURTEEN, FOURTEEN, order),
            # A stretch has such a sum, at each end of the bounds, too.
            (ROW, 5, 99, None), (ROW, -99, -2, None), (ROW, 2, 2, None), (ROW, -FOURTEEN, FOURTEEN, None),
            # The first bound is the greater one.
            (ROW, 3, 2, order), (ROW, 5, -2, order), (ROW, FOURTEEN, -FOURTEEN, order),
            ((), 0, 0, (0,)), ((), -5, 5, (0,)), ((), 5, -5, (0,)),
            ((4,), 5, 9, (0, 1)), ((4,), 4, 4, None), ((4,), 0, 0, (0, 1)), ((-4,), 0, 9, (1, 0)), ((-4,), -4, 0, None),
            # Of alike sums the lesser place first.
            ((0,), 1, 9, (0, 1)), ((0, 0, 0), 1, 9, (0, 1, 2, 3)), ((1, -1, 1), 2, 9, (0, 2, 1, 3)),
            ((-1, 1, -1), 2, 9, (1, 3, 0, 2)),
            ((0,) * 60, 1, FOURTEEN, tuple(range(61))), ((0,) * 60, 0, 0, None),
            ((7,) * 60, 8, 13, tuple(range(61))), ((-7,) * 60, 0, 5, tuple(range(60, -1, -1))),
            ((GREAT,) * 60, 60 * GREAT + 1, FOURTEEN, tuple(range(61))), ((GREAT,) * 60, 60 * GREAT, FOURTEEN, None),
        ):
            with self.subTest(row=row, low=low, high=high):
                self.assertEqual(none_paper(row, low, high), answer)

    def look_at(self, row, low, high):
        paper = none_paper(row, low, high)
        self.assertEqual(paper is None, one_within(row, low, high), (row, low, high))
        if paper is not None:
            self.assertTrue(is_order(row, paper), (row, low, high))
            self.assertIs(none_shown(row, low, high, paper), True, (row, low, high))
        right = tuple(sorted(range(len(row) + 1), key=lambda place: sum(row[:place])))
        self.assertIs(none_shown(row, low, high, right), paper is not None, (row, low, high))

    def test_every_short_row(self):
        for row in short_rows(4):
            for low in range(-4, 5, 2):
                for high in range(-3, 5, 2):
                    self.look_at(row, low, high)

    def test_rows_of_each_kind(self):
        for row in rows_to_ask():
            numbers = numbers_to_ask(every_sum(row))
            for low, high in zip(numbers + numbers, numbers + numbers[1:] + numbers[:1]):
                self.look_at(row, low, high)
            self.look_at(row, numbers[-1], numbers[0])


class NoneLooker(unittest.TestCase):
    def test_by_hand(self):
        for low, high, paper, answer in (
            (6, 9, (0, 2, 4, 1, 3, 5), True),
            (4, 3, (0, 2, 4, 1, 3, 5), True),
            # Two places exchanged, alike sums among them.
            (6, 9, (0, 4, 2, 1, 3, 5), False), (6, 9, (2, 0, 4, 1, 3, 5), False), (6, 9, (0, 2, 4, 1, 5, 3), False),
            (6, 9, (5, 2, 4, 1, 3, 0), False), (4, 3, (0, 4, 2, 1, 3, 5), False),
            # Too short, too long.
            (6, 9, (), False), (6, 9, (0,), False), (6, 9, (0, 2, 4, 1, 3), False), (6, 9, (2, 4, 1, 3, 5), False),
            (6, 9, (0, 2, 4, 1, 3, 5, 6), False), (6, 9, (0, 2, 4, 1, 3, 5, 5), False),
            (6, 9, (0, 0, 2, 4, 1, 3, 5), False),
            # A place twice, and numbers that are no places.
            (6, 9, (0, 2, 2, 1, 3, 5), False), (6, 9, (0, 0, 0, 0, 0, 0), False), (6, 9, (0, 2, 4, 1, 3, 6), False),
            (6, 9, (-1, 2, 4, 1, 3, 5), False), (6, 9, (0, 2, 4, 1, 3, -1), False), (6, 9, (0, -4, 4, 1, 3, 5), False),
            (6, 9, (0, 2, 4, 1, 3, BEYOND), False), (6, 9, (0, 2, 4, 1, 3, -BEYOND), False),
            # The order by the numbers, or the sums themselves.
            (6, 9, (3, 1, 2, 0, 4), False), (6, 9, (0, 1, 2, 3, 4, 5), False), (6, 9, (0, 2, 2, 3, 4, 5), False),
            # The right order where a stretch has such a sum.
            (2, 2, (0, 2, 4, 1, 3, 5), False), (5, 9, (0, 2, 4, 1, 3, 5), False), (-9, -2, (0, 2, 4, 1, 3, 5), False),
            (-FOURTEEN, FOURTEEN, (0, 2, 4, 1, 3, 5), False), (2, 2, (), False),
        ):
            with self.subTest(low=low, high=high, paper=len(paper), answer=answer):
                self.assertIs(none_shown(ROW, low, high, paper), answer)

    def test_a_row_of_no_numbers(self):
        for low, high in ((0, 0), (-5, 5), (5, -5)):
            self.assertIs(none_shown((), low, high, (0,)), True)
            for paper in ((), (1,), (-1,), (0, 0), (0, 1)):
                self.assertIs(none_shown((), low, high, paper), False, paper)

    def test_every_tuple_of_short_rows(self):
        for row in short_rows(2):
            for size in range(len(row) + 3):
                for paper in itertools.product(range(-1, len(row) + 2), repeat=size):
                    for low, high in ((0, 0), (1, 2), (2, 1), (-9, -3)):
                        answer = is_order(row, paper) and not one_within(row, low, high)
                        self.assertIs(none_shown(row, low, high, paper), answer, (row, low, high, paper))

    def test_every_order_of_rows_of_three(self):
        for row in itertools.product((-2, -1, 0, 1, 3), repeat=3):
            for paper in itertools.permutations(range(4)):
                for low, high in ((0, 0), (1, 2), (2, 1), (-9, -3)):
                    answer = is_order(row, paper) and not one_within(row, low, high)
                    self.assertIs(none_shown(row, low, high, paper), answer, (row, low, high, paper))


class Interface(unittest.TestCase):
    def test_arguments(self):
        for function, names in (
            (points_of, ["row", "total"]),
            (points_shown, ["row", "total", "points"]),
            (apart_shown, ["row", "total", "stretches"]),
            (none_paper, ["row", "low", "high"]),
            (none_shown, ["row", "low", "high", "paper"]),
        ):
            self.assertEqual(list(inspect.signature(function).parameters), names)

    def test_kinds(self):
        for row in (ROW, (0, 0), (4,), ()):
            for answer in (points_of(row, 0), points_of(row, 3), none_paper(row, 1, 0)):
                self.assertIs(type(answer), tuple)
                self.assertTrue(all(type(place) is int for place in answer))

    def test_somewhat_beyond_the_bounds_nothing_is_refused(self):
        row = (10 ** 13, -(10 ** 13)) * 40
        points = points_of(row, 0)
        self.assertEqual(len(points), 40)
        self.assertIs(points_shown(row, 0, points), True)
        self.assertIs(apart_shown(row, 0, most_apart(row, 0)), True)
        paper = tuple(range(0, 81, 2)) + tuple(range(1, 81, 2))
        self.assertEqual(none_paper(row, 10 ** 15, 10 ** 16), paper)
        self.assertIs(none_shown(row, 10 ** 15, 10 ** 16, paper), True)


class Alike(unittest.TestCase):
    def test_asked_again(self):
        row = tuple([1, -1, 1, 0])
        points = tuple([0, 2, 3])
        stretches = tuple([(0, 1), (1, 3)])
        paper = tuple([0, 2, 1, 3, 4])

        def asked():
            return (
                points_of(row, 1), points_shown(row, 1, points), apart_shown(row, 1, stretches),
                none_paper(row, 2, 9), none_paper(row, 1, 9), none_shown(row, 2, 9, paper),
            )

        before = asked()
        points_of((1, 1), 1)
        points_shown(row, 1, ())
        apart_shown(row, 1, ((0, 1), (0, 1)))
        none_shown(row, 2, 9, ())
        self.assertEqual(asked(), before)
        self.assertEqual(asked(), before)
        self.assertEqual((row, points, stretches, paper),
                         ((1, -1, 1, 0), (0, 2, 3), ((0, 1), (1, 3)), (0, 2, 1, 3, 4)))


if __name__ == "__main__":
    unittest.main()
