import inspect
import unittest

from asked import FOURTEEN, GREAT, every_sum, is_sum_and_stretch, numbers_to_ask, rows_to_ask, short_rows
from toldsums.errors import NoStretch
from toldsums.orders import count_below, ends_of, in_order, nearest

ROW = (3, -1, 2, -2, 3)
ROW_ORDER = (
    (-2, (3, 4)),
    (-1, (1, 2)), (-1, (1, 4)),
    (0, (2, 4)),
    (1, (1, 3)), (1, (3, 5)),
    (2, (0, 2)), (2, (0, 4)), (2, (1, 5)), (2, (2, 3)),
    (3, (0, 1)), (3, (2, 5)), (3, (4, 5)),
    (4, (0, 3)),
    (5, (0, 5)),
)


def comes_ahead(one, other):
    """Whether one pair (sum, stretch) is ahead of another: by the sum, of alike sums as pairs."""
    if one[0] != other[0]:
        return one[0] < other[0]
    return one[1] < other[1]


def nearest_gone_through(pairs, total):
    """What going through tells, of the pairs of every_sum."""
    best = None
    for pair in pairs:
        if best is None:
            best = pair
        elif abs(pair[0] - total) < abs(best[0] - total):
            best = pair
        elif abs(pair[0] - total) == abs(best[0] - total) and pair[0] < best[0]:
            best = pair
    return best


def ends_gone_through(pairs):
    """What going through tells, of the pairs of every_sum."""
    least = greatest = None
    for pair in pairs:
        if least is None or pair[0] < least[0]:
            least = pair
        if greatest is None or pair[0] > greatest[0]:
            greatest = pair
    return None if least is None else (least, greatest)


class InOrder(unittest.TestCase):
    def test_by_hand(self):
        for number, pair in enumerate(ROW_ORDER):
            with self.subTest(number=number):
                self.assertEqual(in_order(ROW, number), pair)
        self.assertEqual(in_order((4,), 0), (4, (0, 1)))
        alike = [in_order((0, 0, 0), number) for number in range(6)]
        self.assertEqual(alike, [(0, (0, 1)), (0, (0, 2)), (0, (0, 3)), (0, (1, 2)), (0, (1, 3)), (0, (2, 3))])

    def test_each_number_of_short_rows(self):
        for row in short_rows(4):
            pairs = every_sum(row)
            for pair in pairs:
                number = len([other for other in pairs if comes_ahead(other, pair)])
                self.assertEqual(in_order(row, number), pair, (row, number))

    def test_numbers_of_each_kind_of_row(self):
        for row in rows_to_ask():
            pairs = every_sum(row)
            for pair in pairs[:: max(1, len(pairs) // 12)] + pairs[-1:]:
                number = len([other for other in pairs if comes_ahead(other, pair)])
                self.assertEqual(in_order(row, number), pair, (row, number))

    def test_a_number_of_no_stretch_is_refused(self):
        for row in rows_to_ask():
            many = len(row) * (len(row) + 1) // 2
            for number in (-1, -2, -many, -many - 1, many, many + 1, 2 * many + 1, FOURTEEN, -FOURTEEN):
                with self.subTest(row=row, number=number):
                    self.assertRaises(NoStretch, in_order, row, number)
            if many:
                self.assertEqual(in_order(row, 0)[0], ends_of(row)[0][0])
                self.assertEqual(in_order(row, many - 1)[0], ends_of(row)[1][0])

    def test_a_row_of_no_numbers_has_none_of_any_number(self):
        for number in (0, 1, -1, 2, 60, -60, FOURTEEN, -FOURTEEN):
            with self.subTest(number=number):
                self.assertRaises(NoStretch, in_order, (), number)


class Below(unittest.TestCase):
    def test_by_hand(self):
        for row, total, count in (
            # Below all, sums that stand, above all.
            (ROW, -FOURTEEN, 0), (ROW, -3, 0), (ROW, -2, 0), (ROW, -1, 1), (ROW, 0, 3), (ROW, 1, 4), (ROW, 2, 6),
            (ROW, 3, 10), (ROW, 4, 13), (ROW, 5, 14), (ROW, 6, 15), (ROW, FOURTEEN, 15),
            # Between two.
            ((10, 20), 9, 0), ((10, 20), 10, 0), ((10, 20), 11, 1), ((10, 20), 15, 1), ((10, 20), 25, 2),
            ((10, 20), 30, 2), ((10, 20), 31, 3),
            ((), 0, 0), ((), FOURTEEN, 0), ((), -FOURTEEN, 0),
            ((0,) * 60, 0, 0), ((0,) * 60, 1, 1830),
            ((GREAT,) * 60, 60 * GREAT, 1829), ((-GREAT,) * 60, -60 * GREAT + 1, 1),
        ):
            with self.subTest(row=row, total=total):
                self.assertEqual(count_below(row, total), count)

    def look_at(self, row, pairs, total):
        count = 0
        for own, stretch in pairs:
            if own < total:
                count += 1
        self.assertEqual(count_below(row, total), count, (row, total))

    def test_every_short_row(self):
        for row in short_rows(5):
            pairs = every_sum(row)
            for total in range(-5, 7):
                self.look_at(row, pairs, total)

    def test_rows_of_each_kind(self):
        for row in rows_to_ask():
            pairs = every_sum(row)
            for total in numbers_to_ask(pairs):
                self.look_at(row, pairs, total)

    def test_it_is_the_number_of_the_first_such_sum_in_order(self):
        for row in (ROW, (0, 0, 0), (4, -4, 4), (-5, 7, 0, 2)):
            for total, stretch in every_sum(row):
                self.assertEqual(in_order(row, count_below(row, total))[0], total, (row, total))


class Nearest(unittest.TestCase):
    def test_by_hand(self):
        for row, total, answer in (
            # A sum that stands: the first stretch with it.
            (ROW, 2, (2, (0, 2))), (ROW, 3, (3, (0, 1))), (ROW, -1, (-1, (1, 2))), (ROW, 5, (5, (0, 5))),
            # Beyond all.
            (ROW, 6, (5, (0, 5))), (ROW, FOURTEEN, (5, (0, 5))),
            (ROW, -3, (-2, (3, 4))), (ROW, -FOURTEEN, (-2, (3, 4))),
            # Amid two sums the lesser one, though its stretch is not the first.
            ((10, 20), 15, (10, (0, 1))), ((20, 10), 15, (10, (1, 2))), ((10, 20), 25, (20, (1, 2))),
            ((1, -2), 0, (-1, (0, 2))), ((3, -6, 3), 0, (0, (0, 3))), ((8, -3), 1, (-3, (1, 2))),
            # Nearer to one of two.
            ((10, 20), 14, (10, (0, 1))), ((10, 20), 16, (20, (1, 2))), ((20, 10), 16, (20, (0, 1))),
            # Of several stretches the first.
            ((7, 7, 7), 7, (7, (0, 1))), ((7, 7, 7), 13, (14, (0, 2))), ((7, 7, 7), 0, (7, (0, 1))),
            ((9, 2, 0, 2), 1, (0, (2, 3))),
            ((0,) * 60, 0, (0, (0, 1))),
            ((GREAT,) * 60, FOURTEEN, (60 * GREAT, (0, 60))), ((-GREAT,) * 60, -FOURTEEN, (-60 * GREAT, (0, 60))),
            ((-GREAT,) * 60, FOURTEEN, (-GREAT, (0, 1))),
            ((4,), 4, (4, (0, 1))), ((4,), -4, (4, (0, 1))), ((-4,), FOURTEEN, (-4, (0, 1))),
            ((), 0, None), ((), FOURTEEN, None), ((), -FOURTEEN, None),
        ):
            with self.subTest(row=row, total=total):
                self.assertEqual(nearest(row, total), answer)

    def test_every_short_row(self):
        for row in short_rows(5):
            pairs = every_sum(row)
            for total in range(-5, 7):
                self.assertEqual(nearest(row, total), nearest_gone_through(pairs, total), (row, total))

    def test_rows_of_each_kind(self):
        for row in rows_to_ask():
            pairs = every_sum(row)
            for total in numbers_to_ask(pairs):
                self.assertEqual(nearest(row, total), nearest_gone_through(pairs, total), (row, total))

    def test_amid_two_sums(self):
        for row in rows_to_ask():
            doubled = tuple(2 * number for number in row)
            pairs = every_sum(doubled)
            sums = sorted({total for total, stretch in pairs})
            for less, more in list(zip(sums, sums[1:]))[:: max(1, len(sums) // 9)]:
                answer = nearest(doubled, (less + more) // 2)
                self.assertEqual(answer, next(pair for pair in pairs if pair[0] == less), (doubled, less, more))


class Ends(unittest.TestCase):
    def test_by_hand(self):
        for row, answer in (
            (ROW, ((-2, (3, 4)), (5, (0, 5)))),
            ((), None),
            ((0,), ((0, (0, 1)), (0, (0, 1)))),
            ((4,), ((4, (0, 1)), (4, (0, 1)))),
            ((-4,), ((-4, (0, 1)), (-4, (0, 1)))),
            # The first stretch of each end, though others have the same sum.
            ((0, 0, 0), ((0, (0, 1)), (0, (0, 1)))),
            ((-1, 5, -1, -4, 5, 0, -5), ((-5, (2, 4)), (5, (1, 2)))),
            ((2, 3), ((2, (0, 1)), (5, (0, 2)))),
            ((-2, -3), ((-5, (0, 2)), (-2, (0, 1)))),
            ((GREAT,) * 60, ((GREAT, (0, 1)), (60 * GREAT, (0, 60)))),
            ((-GREAT,) * 60, ((-60 * GREAT, (0, 60)), (-GREAT, (0, 1)))),
        ):
            with self.subTest(row=row):
                self.assertEqual(ends_of(row), answer)

    def test_every_short_row(self):
        for row in short_rows(5):
            self.assertEqual(ends_of(row), ends_gone_through(every_sum(row)), row)

    def test_rows_of_each_kind(self):
        for row in rows_to_ask():
            self.assertEqual(ends_of(row), ends_gone_through(every_sum(row)), row)


class Interface(unittest.TestCase):
    def test_arguments(self):
        self.assertEqual(list(inspect.signature(in_order).parameters), ["row", "number"])
        self.assertEqual(list(inspect.signature(count_below).parameters), ["row", "total"])
        self.assertEqual(list(inspect.signature(nearest).parameters), ["row", "total"])
        self.assertEqual(list(inspect.signature(ends_of).parameters), ["row"])

    def test_kinds(self):
        for row in (ROW, (0, 0), (4,)):
            self.assertIs(type(count_below(row, 3)), int)
            self.assertTrue(is_sum_and_stretch(in_order(row, 0)))
            self.assertTrue(is_sum_and_stretch(nearest(row, 3)))
            ends = ends_of(row)
            self.assertIs(type(ends), tuple)
            self.assertEqual([is_sum_and_stretch(end) for end in ends], [True, True])

    def test_somewhat_beyond_the_bounds_nothing_is_refused(self):
        row = (10 ** 13, -(10 ** 13), 5) * 22
        pairs = every_sum(row)
        self.assertEqual(in_order(row, 0), min(pairs))
        self.assertEqual(in_order(row, 2210), max(pairs))
        self.assertRaises(NoStretch, in_order, row, 2211)
        self.assertRaises(NoStretch, in_order, row, 10 ** 20)
        self.assertEqual(count_below(row, 10 ** 16), 2211)
        self.assertEqual(nearest(row, 10 ** 16), nearest_gone_through(pairs, 10 ** 16))
        self.assertEqual(ends_of(row), ends_gone_through(pairs))


class Alike(unittest.TestCase):
    def test_asked_again(self):
        row = tuple([1, -1, 1, 0])

        def asked():
            return (
                [in_order(row, number) for number in range(10)],
                [count_below(row, total) for total in range(-3, 4)],
                [nearest(row, total) for total in range(-3, 4)],
                ends_of(row),
            )

        before = asked()
        self.assertRaises(NoStretch, in_order, row, 10)
        self.assertRaises(NoStretch, in_order, row, -1)
        ends_of((9, 9))
        nearest((9, 9), 3)
        self.assertEqual(asked(), before)
        self.assertEqual(asked(), before)
        self.assertEqual(row, (1, -1, 1, 0))


if __name__ == "__main__":
    unittest.main()
