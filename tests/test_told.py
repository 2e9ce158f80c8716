import random
import unittest

from asked import GREAT, every_sum, gone_through, short_rows
from toldsums.told import all_with, count_with, first_with, longest_with, shortest_with


def with_sum(row, total):
    """What going through all stretches tells."""
    return gone_through(every_sum(row), lambda own: own == total)


def told(row, total):
    return (
        count_with(row, total),
        all_with(row, total),
        first_with(row, total),
        longest_with(row, total),
        shortest_with(row, total),
    )


class Told(unittest.TestCase):
    def test_by_hand(self):
        row = (3, -1, 2, -2, 3)
        none = (0, [], None, None, None)
        for asked, total, answer in (
            (row, 2, (4, [(0, 2), (0, 4), (1, 5), (2, 3)], (0, 2), (0, 4), (2, 3))),
            (row, 3, (3, [(0, 1), (2, 5), (4, 5)], (0, 1), (2, 5), (0, 1))),
            (row, 5, (1, [(0, 5)], (0, 5), (0, 5), (0, 5))),
            (row, 0, (1, [(2, 4)], (2, 4), (2, 4), (2, 4))),
            (row, -2, (1, [(3, 4)], (3, 4), (3, 4), (3, 4))),
            (row, 6, none),
            (row, -3, none),
            ((), 0, none),
            ((), 7, none),
            ((0,), 0, (1, [(0, 1)], (0, 1), (0, 1), (0, 1))),
            ((4,), 0, none),
            ((4,), 4, (1, [(0, 1)], (0, 1), (0, 1), (0, 1))),
            ((0, 0), 0, (3, [(0, 1), (0, 2), (1, 2)], (0, 1), (0, 2), (0, 1))),
            # The first is neither the longest nor the shortest.
            ((1, 1, 2, -2, 2), 2, (5, [(0, 2), (0, 4), (2, 3), (2, 5), (4, 5)], (0, 2), (0, 4), (2, 3))),
            # Of several as long or as short, the first.
            ((5, 5, 5), 10, (2, [(0, 2), (1, 3)], (0, 2), (0, 2), (0, 2))),
        ):
            with self.subTest(row=asked, total=total):
                self.assertEqual(told(asked, total), answer)

    def test_every_short_row(self):
        for row in short_rows(5):
            for total in range(-3, 5):
                self.assertEqual(told(row, total), with_sum(row, total), (row, total))

    def test_long_rows(self):
        chance = random.Random(20)
        rows = [(0,) * 60, (7,) * 60, (-7,) * 60, (1, -1) * 30, tuple(range(-30, 30)), (GREAT, -GREAT, 0) * 20]
        for wide in (1, 3, 10, GREAT):
            for many in (1, 2, 13, 59, 60):
                rows.append(tuple(chance.randint(-wide, wide) for at in range(many)))
        for row in rows:
            low = chance.randrange(len(row))
            had = sum(row[low:chance.randint(low + 1, len(row))])
            for total in (0, 1, -1, 7, had, sum(row), row[-1], 60 * GREAT, 10 ** 14 - 1, 1 - 10 ** 14):
                with self.subTest(row=row, total=total):
                    self.assertEqual(told(row, total), with_sum(row, total))

    def test_sums_of_fourteen_figures(self):
        row = (GREAT,) * 60
        self.assertEqual(told(row, 60 * GREAT), (1, [(0, 60)], (0, 60), (0, 60), (0, 60)))
        self.assertEqual(count_with(row, 59 * GREAT), 2)
        self.assertEqual(told(row, 60 * GREAT - 1), (0, [], None, None, None))

    def test_somewhat_beyond_the_bounds_nothing_is_refused(self):
        row = (10 ** 13, -(10 ** 13)) * 40
        for total in (0, 10 ** 13, 10 ** 16):
            self.assertEqual(told(row, total), with_sum(row, total))
        self.assertEqual(count_with((0,) * 60, 0), 1830)

    def test_kinds(self):
        for row in ((3, -1, 2, -2, 3), (0, 0), (4,), ()):
            for total in (0, 2, 99):
                count, found, *chosen = told(row, total)
                self.assertIs(type(count), int)
                self.assertIs(type(found), list)
                for stretch in found + [one for one in chosen if one is not None]:
                    self.assertIs(type(stretch), tuple)
                    self.assertEqual([type(place) for place in stretch], [int, int])


class Alike(unittest.TestCase):
    def test_asked_again(self):
        row = tuple([1, -1, 1, 0])
        before = [told(row, total) for total in (0, 1, 5)]
        told((1, 1), 1)
        self.assertEqual([told(row, total) for total in (0, 1, 5)], before)
        self.assertEqual(row, (1, -1, 1, 0))

    def test_a_told_list_is_the_askers_own(self):
        row = (1, -1, 1, 0)
        for total in (1, 0, 5):
            answer = with_sum(row, total)
            mine = all_with(row, total)
            mine.append((7, 9))
            mine.reverse()
            kept = all_with(row, total)
            self.assertEqual(kept, answer[1])
            self.assertEqual(told(row, total), answer)
            mine.clear()
            self.assertEqual(told(row, total), answer)
            # What was told does not change by what is asked later.
            all_with(row, 1)
            all_with((1, 1, 1), total)
            self.assertEqual(kept, answer[1])


if __name__ == "__main__":
    unittest.main()
