import inspect
import unittest

from asked import FOURTEEN, GREAT, every_sum, gone_through, is_stretch, rows_to_ask, short_rows
from toldsums.errors import NoRest
from toldsums.rests import count_rest, counts_by_rest, first_rest, longest_rest, shortest_rest

ROW = (3, -1, 2, -2, 3)
MILLION = 10 ** 6
ASKED_WITH_REST = (count_rest, first_rest, longest_rest, shortest_rest)

# Each m with rests that are none by it, and m itself wrong, alone or with the rest.
NO_RESTS = (
    (1, 1), (1, -1), (1, 2), (2, 2), (2, -1), (2, 3), (10, 10), (10, 11), (10, -1), (10, -10), (10, FOURTEEN),
    (1000, 1000), (1000, -1), (MILLION, MILLION), (MILLION, MILLION + 1), (MILLION, -1), (MILLION, -MILLION),
    (0, 0), (0, 1), (0, -1), (-1, 0), (-1, -1), (-1, 1), (-2, -1), (-10, 3), (-10, -3), (-MILLION, 0),
    (-FOURTEEN, 5), (-FOURTEEN, -FOURTEEN),
)


def told(row, m, rest):
    return tuple(function(row, m, rest) for function in ASKED_WITH_REST)


def leaves(total, m, rest):
    """Whether the total less the rest is so many times m."""
    return (total - rest) // m * m == total - rest


def by_rest(pairs, m, rest):
    """What going through tells, of the pairs of every_sum."""
    count, found, first, longest, shortest = gone_through(pairs, lambda total: leaves(total, m, rest))
    return count, first, longest, shortest


def rests_to_ask(pairs, m):
    """0, the greatest, and those of some sums above and below 0."""
    sums = sorted({total for total, stretch in pairs})
    some = sums[:2] + sums[len(sums) // 2 :][:2] + sums[-2:]
    rests = {0, m - 1, m // 2}
    for total in some:
        rests.add(total - total // m * m)
    return sorted(rests)


class Rest(unittest.TestCase):
    def test_by_hand(self):
        for row, m, rest, answer in (
            # Every sum has the rest 0 by 1.
            (ROW, 1, 0, (15, (0, 1), (0, 5), (0, 1))),
            (ROW, 2, 0, (7, (0, 2), (0, 4), (2, 3))),
            (ROW, 2, 1, (8, (0, 1), (0, 5), (0, 1))),
            # The sums -1 and -2 have the rests 3 and 2 by 4.
            (ROW, 4, 3, (5, (0, 1), (1, 4), (0, 1))),
            (ROW, 4, 2, (5, (0, 2), (0, 4), (2, 3))),
            (ROW, MILLION, MILLION - 1, (2, (1, 2), (1, 4), (1, 2))),
            (ROW, MILLION, MILLION - 2, (1, (3, 4), (3, 4), (3, 4))),
            (ROW, MILLION, 5, (1, (0, 5), (0, 5), (0, 5))),
            (ROW, MILLION, 6, (0, None, None, None)),
            ((-7,), 10, 3, (1, (0, 1), (0, 1), (0, 1))),
            ((-7,), 10, 7, (0, None, None, None)),
            ((-10,), 10, 0, (1, (0, 1), (0, 1), (0, 1))),
            ((), 1, 0, (0, None, None, None)),
            ((), MILLION, 7, (0, None, None, None)),
            ((5, 5, 5), 10, 0, (2, (0, 2), (0, 2), (0, 2))),
            ((5, 5, 5), 10, 5, (4, (0, 1), (0, 3), (0, 1))),
            # The first is neither the longest nor the shortest.
            ((1, 1, 2, -2, 2), 1000, 2, (5, (0, 2), (0, 4), (2, 3))),
            ((GREAT,), MILLION, MILLION - 1, (1, (0, 1), (0, 1), (0, 1))),
            ((-GREAT,), MILLION, 1, (1, (0, 1), (0, 1), (0, 1))),
        ):
            with self.subTest(row=row, m=m, rest=rest):
                self.assertEqual(told(row, m, rest), answer)

    def test_every_short_row(self):
        for row in short_rows(4):
            pairs = every_sum(row)
            for m in (1, 2, 3, 7):
                for rest in range(m):
                    self.assertEqual(told(row, m, rest), by_rest(pairs, m, rest), (row, m, rest))

    def test_rows_of_each_kind(self):
        for row in rows_to_ask():
            pairs = every_sum(row)
            for m in (1, 2, 3, 10, 13, 60, 997, 1000, MILLION - 1, MILLION):
                for rest in rests_to_ask(pairs, m):
                    self.assertEqual(told(row, m, rest), by_rest(pairs, m, rest), (row, m, rest))

    def test_a_row_of_m_numbers_or_more_has_the_rest_0(self):
        for row in rows_to_ask():
            for m in range(1, len(row) + 1):
                self.assertGreater(count_rest(row, m, 0), 0, (row, m))
                self.assertIsNotNone(first_rest(row, m, 0), (row, m))
        # One number fewer need not be enough.
        self.assertEqual(told((1,) * 9, 10, 0), (0, None, None, None))

    def test_what_is_no_rest_is_refused(self):
        for row in rows_to_ask():
            for m, rest in NO_RESTS:
                for function in ASKED_WITH_REST:
                    with self.subTest(function=function.__name__, row=row, m=m, rest=rest):
                        self.assertRaises(NoRest, function, row, m, rest)

    def test_somewhat_beyond_the_bounds_nothing_is_refused(self):
        row = (10 ** 13, -(10 ** 13), 5) * 22
        pairs = every_sum(row)
        for m, rest in ((MILLION + 1, 5), (3 * MILLION, 0), (10 ** 13 + 6, 5)):
            self.assertEqual(told(row, m, rest), by_rest(pairs, m, rest))


class ByRest(unittest.TestCase):
    def test_by_hand(self):
        for row, m, counts in (
            (ROW, 1, (15,)),
            (ROW, 2, (7, 8)),
            (ROW, 4, (2, 3, 5, 5)),
            ((), 1, (0,)),
            ((), 3, (0, 0, 0)),
            ((-1,), 3, (0, 0, 1)),
            ((-3,), 3, (1, 0, 0)),
            ((5, 5, 5), 10, (2, 0, 0, 0, 0, 4, 0, 0, 0, 0)),
        ):
            with self.subTest(row=row, m=m):
                self.assertEqual(counts_by_rest(row, m), counts)

    def test_each_m_from_1_to_60(self):
        for row in rows_to_ask():
            pairs = every_sum(row)
            for m in range(1, 61):
                counts = [0] * m
                for total, stretch in pairs:
                    counts[total - total // m * m] += 1
                answer = counts_by_rest(row, m)
                self.assertEqual(answer, tuple(counts), (row, m))
                self.assertEqual(len(answer), m)
                self.assertEqual(sum(answer), len(row) * (len(row) + 1) // 2)

    def test_each_is_what_count_rest_tells(self):
        for row in rows_to_ask():
            for m in (1, 2, 9):
                counts = tuple(count_rest(row, m, rest) for rest in range(m))
                self.assertEqual(counts_by_rest(row, m), counts, (row, m))

    def test_m_below_1_is_refused(self):
        for row in rows_to_ask():
            for m in (0, -1, -2, -60, -MILLION, -FOURTEEN):
                with self.subTest(row=row, m=m):
                    self.assertRaises(NoRest, counts_by_rest, row, m)

    def test_somewhat_beyond_the_bounds_nothing_is_refused(self):
        for m in (61, 100, 1000):
            counts = counts_by_rest(ROW, m)
            self.assertEqual(len(counts), m)
            self.assertEqual((counts[0], counts[2], counts[m - 1], sum(counts)), (1, 4, 2, 15))


class Interface(unittest.TestCase):
    def test_arguments(self):
        for function in ASKED_WITH_REST:
            self.assertEqual(list(inspect.signature(function).parameters), ["row", "m", "rest"])
        self.assertEqual(list(inspect.signature(counts_by_rest).parameters), ["row", "m"])

    def test_kinds(self):
        for row in (ROW, (0, 0), (4,), ()):
            for m, rest in ((1, 0), (2, 1), (MILLION, 4)):
                count, *chosen = told(row, m, rest)
                self.assertIs(type(count), int)
                for stretch in chosen:
                    self.assertTrue(stretch is None or is_stretch(stretch), stretch)
            counts = counts_by_rest(row, 7)
            self.assertIs(type(counts), tuple)
            self.assertEqual({type(count) for count in counts}, {int})


class Alike(unittest.TestCase):
    def test_asked_again(self):
        row = tuple([1, -1, 1, 0])

        def asked():
            return [(told(row, m, rest), counts_by_rest(row, m)) for m in range(1, 6) for rest in range(m)]

        before = asked()
        told((1, 1), 3, 1)
        counts_by_rest((9, 9), 5)
        for m, rest in ((0, 0), (3, 3), (5, -1)):
            self.assertRaises(NoRest, count_rest, row, m, rest)
        self.assertEqual(asked(), before)
        self.assertEqual(asked(), before)
        self.assertEqual(row, (1, -1, 1, 0))


if __name__ == "__main__":
    unittest.main()
