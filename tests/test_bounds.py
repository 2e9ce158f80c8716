import inspect
import unittest

from asked import FOURTEEN, GREAT, every_sum, gone_through, is_stretch, numbers_to_ask, rows_to_ask, short_rows
from toldsums.bounds import (
    count_within,
    first_within,
    longest_to,
    longest_within,
    shortest_from,
    shortest_within,
)

ROW = (3, -1, 2, -2, 3)


def told(row, low, high):
    return (
        count_within(row, low, high),
        first_within(row, low, high),
        longest_within(row, low, high),
        shortest_within(row, low, high),
    )


def within(pairs, low, high):
    """What going through tells, of the pairs of every_sum."""
    count, found, first, longest, shortest = gone_through(pairs, lambda total: total >= low and not total > high)
    return count, first, longest, shortest


class Within(unittest.TestCase):
    def test_by_hand(self):
        none = (0, None, None, None)
        for row, low, high, answer in (
            (ROW, 2, 2, (4, (0, 2), (0, 4), (2, 3))),
            (ROW, 3, 4, (4, (0, 1), (0, 3), (0, 1))),
            (ROW, 4, 5, (2, (0, 3), (0, 5), (0, 3))),
            (ROW, 5, 5, (1, (0, 5), (0, 5), (0, 5))),
            (ROW, -2, 5, (15, (0, 1), (0, 5), (0, 1))),
            (ROW, -2, -1, (3, (1, 2), (1, 4), (1, 2))),
            (ROW, 6, 99, none),
            (ROW, -99, -3, none),
            # The first bound is the greater one.
            (ROW, 3, 2, none),
            (ROW, 5, -2, none),
            (ROW, FOURTEEN, -FOURTEEN, none),
            ((), -5, 5, none),
            ((), 0, 0, none),
            ((), 5, -5, none),
            ((4,), 4, 4, (1, (0, 1), (0, 1), (0, 1))),
            ((4,), 3, 5, (1, (0, 1), (0, 1), (0, 1))),
            ((4,), 5, 9, none),
            ((4,), -4, 3, none),
            # Of several as long or as short the first as a pair.
            ((5, 5, 5, 5), 10, 15, (5, (0, 2), (0, 3), (0, 2))),
            ((9, 1, 1, 9), 1, 2, (3, (1, 2), (1, 3), (1, 2))),
            # The first is neither the longest nor the shortest.
            ((1, 1, 2, -2, 2), 2, 2, (5, (0, 2), (0, 4), (2, 3))),
        ):
            with self.subTest(row=row, low=low, high=high):
                self.assertEqual(told(row, low, high), answer)

    def test_every_short_row(self):
        for row in short_rows(4):
            pairs = every_sum(row)
            for low in range(-4, 6):
                for high in range(-4, 6):
                    self.assertEqual(told(row, low, high), within(pairs, low, high), (row, low, high))

    def test_rows_of_each_kind(self):
        for row in rows_to_ask():
            pairs = every_sum(row)
            numbers = numbers_to_ask(pairs)
            for low in numbers:
                for high in numbers:
                    self.assertEqual(told(row, low, high), within(pairs, low, high), (row, low, high))

    def test_bounds_of_fourteen_figures(self):
        for row in ((GREAT,) * 60, (-GREAT,) * 60):
            whole = sum(row)
            self.assertEqual(told(row, whole, whole), (1, (0, 60), (0, 60), (0, 60)))
            self.assertEqual(told(row, -FOURTEEN, FOURTEEN), (1830, (0, 1), (0, 60), (0, 1)))
        self.assertEqual(count_within((GREAT,) * 60, 60 * GREAT + 1, FOURTEEN), 0)
        self.assertEqual(count_within((-GREAT,) * 60, -FOURTEEN, -60 * GREAT - 1), 0)
        self.assertEqual(count_within((GREAT,) * 60, 59 * GREAT, 60 * GREAT - 1), 2)

    def test_somewhat_beyond_the_bounds_nothing_is_refused(self):
        row = (10 ** 13, -(10 ** 13), 5) * 22
        pairs = every_sum(row)
        for low, high in ((0, 10 ** 13), (-(10 ** 16), 10 ** 16), (10 ** 16, 10 ** 17)):
            self.assertEqual(told(row, low, high), within(pairs, low, high))
        self.assertEqual(shortest_from(row, 10 ** 16), None)
        self.assertEqual(longest_to(row, 10 ** 16), (0, 66))


class FromAndTo(unittest.TestCase):
    def test_by_hand(self):
        for row, number, shortest, longest in (
            (ROW, 3, (0, 1), (0, 4)),
            (ROW, 4, (0, 3), (0, 4)),
            (ROW, 5, (0, 5), (0, 5)),
            (ROW, 6, None, (0, 5)),
            (ROW, 0, (0, 1), (1, 4)),
            (ROW, -1, (0, 1), (1, 4)),
            (ROW, -2, (0, 1), (3, 4)),
            (ROW, -3, (0, 1), None),
            ((), 0, None, None),
            ((), FOURTEEN, None, None),
            ((), -FOURTEEN, None, None),
            ((4,), 4, (0, 1), (0, 1)),
            ((4,), 5, None, (0, 1)),
            ((4,), 3, (0, 1), None),
            # Of several as short or as long the first as a pair.
            ((1, 5, 5, 5), 10, (1, 3), (0, 2)),
            ((5, 5, 5), 10, (0, 2), (0, 2)),
            ((5, 5, 5), 11, (0, 3), (0, 2)),
        ):
            with self.subTest(row=row, number=number):
                self.assertEqual(shortest_from(row, number), shortest)
                self.assertEqual(longest_to(row, number), longest)

    def look_at(self, row, pairs, number):
        shortest = gone_through(pairs, lambda total: not total < number)[4]
        longest = gone_through(pairs, lambda total: not total > number)[3]
        self.assertEqual(shortest_from(row, number), shortest, (row, number))
        self.assertEqual(longest_to(row, number), longest, (row, number))

    def test_every_short_row(self):
        for row in short_rows(5):
            pairs = every_sum(row)
            for number in range(-5, 7):
                self.look_at(row, pairs, number)

    def test_rows_of_each_kind(self):
        for row in rows_to_ask():
            pairs = every_sum(row)
            for number in numbers_to_ask(pairs):
                self.look_at(row, pairs, number)

    def test_what_all_come_to_and_none_does(self):
        for row in rows_to_ask():
            if not row:
                continue
            with self.subTest(row=row):
                self.assertEqual(shortest_from(row, -FOURTEEN), (0, 1))
                self.assertEqual(longest_to(row, FOURTEEN), (0, len(row)))
                self.assertIsNone(shortest_from(row, FOURTEEN))
                self.assertIsNone(longest_to(row, -FOURTEEN))


class Interface(unittest.TestCase):
    def test_arguments(self):
        for function in (count_within, first_within, longest_within, shortest_within):
            self.assertEqual(list(inspect.signature(function).parameters), ["row", "low", "high"])
        self.assertEqual(list(inspect.signature(shortest_from).parameters), ["row", "low"])
        self.assertEqual(list(inspect.signature(longest_to).parameters), ["row", "high"])

    def test_kinds(self):
        for row in (ROW, (0, 0), (4,), ()):
            for low, high in ((0, 2), (4, 4), (2, 0), (-FOURTEEN, FOURTEEN)):
                count, *chosen = told(row, low, high)
                self.assertIs(type(count), int)
                for stretch in chosen + [shortest_from(row, low), longest_to(row, high)]:
                    self.assertTrue(stretch is None or is_stretch(stretch), stretch)


class Alike(unittest.TestCase):
    def test_asked_again(self):
        row = tuple([1, -1, 1, 0])

        def asked():
            return [
                (told(row, low, high), shortest_from(row, low), longest_to(row, high))
                for low in range(-2, 3)
                for high in range(-2, 3)
            ]

        before = asked()
        told((1, 1), 1, 2)
        shortest_from((9,), 9)
        longest_to((), 0)
        self.assertEqual(asked(), before)
        self.assertEqual(asked(), before)
        self.assertEqual(row, (1, -1, 1, 0))


if __name__ == "__main__":
    unittest.main()
