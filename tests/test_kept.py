import inspect
import random
import unittest

from asked import FOURTEEN, GREAT, every_sum, gone_through, is_stretch, rows_to_ask
from toldsums.errors import NoPlace
from toldsums.kept import KeptRow

ROW = (3, -1, 2, -2, 3)
NO_PLACES = (-1, -2, -5, -6, -60, -FOURTEEN, -(10 ** 5000))


def told(kept):
    return kept.row_now(), kept.count_now(), kept.first_now(), kept.longest_now()


def by_going_through(row, total):
    """What going through all stretches tells of a row, as told() tells it."""
    count, found, first, longest, shortest = gone_through(every_sum(row), lambda own: own == total)
    return row, count, first, longest


class Deeds(unittest.TestCase):
    def test_by_hand(self):
        kept = KeptRow(ROW, 2)
        self.assertEqual(told(kept), (ROW, 4, (0, 2), (0, 4)))
        # Of the new stretches only (5, 6) has the sum 2.
        self.assertEqual(kept.put_number(2), 1)
        self.assertEqual(told(kept), (ROW + (2,), 5, (0, 2), (0, 4)))
        self.assertEqual(kept.take_number(), -1)
        self.assertEqual(told(kept), (ROW, 4, (0, 2), (0, 4)))
        self.assertEqual(kept.lead_number(0, 9), -2)
        self.assertEqual(told(kept), ((9, -1, 2, -2, 3), 2, (1, 5), (1, 5)))
        self.assertEqual(kept.lead_number(0, 9), 0)
        self.assertEqual(kept.lead_number(2, 99), -2)
        self.assertEqual(told(kept), ((9, -1, 99, -2, 3), 0, None, None))
        self.assertEqual(kept.lead_number(4, 4), 1)
        self.assertEqual(told(kept), ((9, -1, 99, -2, 4), 1, (3, 5), (3, 5)))

    def test_from_no_numbers_on_and_back(self):
        kept = KeptRow((), 0)
        self.assertEqual(told(kept), ((), 0, None, None))
        for many in range(60):
            self.assertEqual(kept.put_number(0), many + 1)
            self.assertEqual(kept.longest_now(), (0, many + 1))
        self.assertEqual(told(kept), ((0,) * 60, 1830, (0, 1), (0, 60)))
        # The stretches with the place 30 in them are those that are lost.
        self.assertEqual(kept.lead_number(30, 1), -31 * 30)
        self.assertEqual(kept.longest_now(), (0, 30))
        self.assertEqual(kept.lead_number(30, 0), 31 * 30)
        for many in range(60, 0, -1):
            self.assertEqual(kept.take_number(), -many)
        self.assertEqual(told(kept), ((), 0, None, None))

    def test_led_to_the_same_number(self):
        for total in (0, 1, 2, 3, 9):
            kept = KeptRow(ROW, total)
            before = told(kept)
            for place, number in enumerate(ROW):
                self.assertEqual(kept.lead_number(place, number), 0)
                self.assertEqual(told(kept), before)

    def test_each_place_led_elsewhere(self):
        for total in (0, 1, 2, 5):
            for place in range(len(ROW)):
                for number in (-3, 0, 1, 2, GREAT, -GREAT):
                    kept = KeptRow(ROW, total)
                    led = ROW[:place] + (number,) + ROW[place + 1:]
                    more = by_going_through(led, total)[1] - by_going_through(ROW, total)[1]
                    self.assertEqual(kept.lead_number(place, number), more)
                    self.assertEqual(told(kept), by_going_through(led, total))

    def test_deeds_by_turns(self):
        chance = random.Random(18)
        for numbers, total in (
            ((0, 0, 0, 1, -1), 0), ((1, 2, -1), 2), ((7, 7, 7, 0), 14), ((GREAT, -GREAT, 1), GREAT), ((5, -3, 2), -1),
        ):
            kept = KeptRow((), total)
            row = []
            for turn in range(250):
                self.do_one(chance, kept, row, numbers, total)

    def do_one(self, chance, kept, row, numbers, total):
        """A deed drawn by chance, done on the kept row and on a list beside it."""
        ahead = by_going_through(tuple(row), total)[1]
        number = chance.choice(numbers)
        deed = chance.choice(("put", "put", "take", "lead", "lead"))
        if deed == "put" and len(row) < 60:
            more = kept.put_number(number)
            row.append(number)
        elif deed == "take" and row:
            more = kept.take_number()
            row.pop()
        elif row:
            place = chance.randrange(len(row))
            more = kept.lead_number(place, number)
            row[place] = number
        else:
            return
        behind = by_going_through(tuple(row), total)
        self.assertEqual(more, behind[1] - ahead)
        self.assertIs(type(more), int)
        self.assertEqual(told(kept), behind)

    def test_rows_of_each_kind(self):
        for row in rows_to_ask():
            for total in (0, sum(row), sum(row[:2]), FOURTEEN):
                kept = KeptRow(row, total)
                self.assertEqual(told(kept), by_going_through(row, total))
                if row:
                    ahead = kept.count_now()
                    less = by_going_through(row[:-1], total)
                    self.assertEqual(kept.take_number(), less[1] - ahead)
                    self.assertEqual(told(kept), less)
                    self.assertEqual(kept.put_number(row[-1]), ahead - less[1])
                self.assertEqual(told(kept), by_going_through(row, total))


class Refused(unittest.TestCase):
    def test_taken_away_of_no_numbers(self):
        for total in (0, 5):
            kept = KeptRow((), total)
            for turn in range(2):
                self.assertRaises(NoPlace, kept.take_number)
                self.assertEqual(told(kept), ((), 0, None, None))
            self.assertEqual(kept.put_number(5), 1 if total == 5 else 0)
            kept.take_number()
            self.assertRaises(NoPlace, kept.take_number)
            self.assertEqual(told(kept), ((), 0, None, None))

    def test_places_that_are_none(self):
        for row in ((), (0,), (5,), ROW, (0,) * 60):
            many = len(row)
            for total in (0, 2):
                kept = KeptRow(row, total)
                before = told(kept)
                for place in NO_PLACES + (many, many + 1, 2 * many + 1, -many - 1, FOURTEEN, 10 ** 5000):
                    self.assertRaises(NoPlace, kept.lead_number, place, 2)
                    self.assertEqual(told(kept), before)
                # Behind the refusals deeds are as they were.
                self.assertEqual(kept.put_number(7), by_going_through(row + (7,), total)[1] - before[1])
                self.assertEqual(kept.lead_number(many, 7), 0)


class Beside(unittest.TestCase):
    def test_two_kept_rows(self):
        row = tuple([1, -1, 1])
        one = KeptRow(row, 1)
        other = KeptRow(row, 0)
        third = KeptRow(one.row_now(), 1)
        before = told(other), told(third)
        one.put_number(1)
        one.lead_number(0, 5)
        self.assertRaises(NoPlace, one.lead_number, 9, 5)
        self.assertEqual((told(other), told(third)), before)
        other.take_number()
        self.assertEqual(told(one), by_going_through((5, -1, 1, 1), 1))
        self.assertEqual(told(other), by_going_through((1, -1), 0))
        self.assertEqual(told(third), before[1])
        self.assertEqual(row, (1, -1, 1))

    def test_what_was_told_stands(self):
        kept = KeptRow(ROW, 2)
        before = told(kept)
        copy = (tuple(list(before[0])), before[1], tuple(list(before[2])), tuple(list(before[3])))
        kept.put_number(2)
        kept.lead_number(0, 0)
        kept.take_number()
        kept.take_number()
        self.assertEqual(before, copy)

    def test_what_is_told_may_be_changed_by_the_asker(self):
        kept = KeptRow(ROW, 2)
        mine = kept.row_now()
        mine += (2, 2)
        self.assertEqual(told(kept), (ROW, 4, (0, 2), (0, 4)))
        mine = list(kept.row_now())
        mine.clear()
        self.assertEqual(told(kept), (ROW, 4, (0, 2), (0, 4)))

    def test_a_list_handed_in_may_be_changed_behind_the_call(self):
        mine = list(ROW)
        kept = KeptRow(mine, 2)
        mine.clear()
        self.assertEqual(told(kept), (ROW, 4, (0, 2), (0, 4)))

    def test_asked_again(self):
        kept = KeptRow(ROW, 2)
        self.assertEqual(told(kept), told(kept))
        self.assertEqual(told(KeptRow(ROW, 2)), told(kept))


class Interface(unittest.TestCase):
    def test_arguments(self):
        for function, names in (
            (KeptRow, ["row", "total"]),
            (KeptRow.put_number, ["self", "number"]),
            (KeptRow.take_number, ["self"]),
            (KeptRow.lead_number, ["self", "place", "number"]),
            (KeptRow.row_now, ["self"]),
            (KeptRow.count_now, ["self"]),
            (KeptRow.first_now, ["self"]),
            (KeptRow.longest_now, ["self"]),
        ):
            self.assertEqual(list(inspect.signature(function).parameters), names)

    def test_kinds(self):
        for row in (ROW, (0, 0), (4,), ()):
            kept = KeptRow(row, 2)
            for deed in (lambda: kept.put_number(2), lambda: kept.lead_number(0, 2), kept.take_number):
                self.assertIs(type(deed()), int)
                now, count, first, longest = told(kept)
                self.assertIs(type(now), tuple)
                self.assertIs(type(count), int)
                self.assertTrue(first is None or is_stretch(first))
                self.assertTrue(longest is None or is_stretch(longest))

    def test_somewhat_beyond_the_bounds_nothing_is_refused(self):
        kept = KeptRow((10 ** 13,) * 60, 10 ** 16)
        self.assertEqual(kept.put_number(10 ** 16), 1)
        self.assertEqual(kept.put_number(0), 1)
        self.assertEqual(kept.lead_number(61, 10 ** 16), 0)
        self.assertEqual(len(kept.row_now()), 62)
        self.assertEqual(kept.count_now(), 2)


if __name__ == "__main__":
    unittest.main()
