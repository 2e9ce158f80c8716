"""What is promised over the whole program: the interface, and points [1] to [3] of the document."""

import importlib
import inspect
import itertools
import pathlib
import subprocess
import sys
import unittest

from asked import apart_with, every_sum, gone_through, numbers_in, rows_to_ask, short_rows
from toldsums.apart import count_partings, first_parting, most_apart, most_numbers
from toldsums.bounds import (
    count_within, first_within, longest_to, longest_within, shortest_from, shortest_within,
)
from toldsums.errors import NoAsk, NoPlace, NoRest, NoStretch, NoText, SumError
from toldsums.kept import KeptRow
from toldsums.orders import count_below, ends_of, in_order, nearest
from toldsums.papers import apart_shown, none_paper, none_shown, points_of, points_shown
from toldsums.rests import count_rest, counts_by_rest, first_rest, longest_rest, shortest_rest
from toldsums.rows import read_row, row_shown, sum_of, sums_ahead
from toldsums.told import all_with, count_with, first_with, longest_with, shortest_with
from toldsums.whole import Desk

TOP = pathlib.Path(__file__).resolve().parent.parent

FUNCTIONS = {
    "rows": {"read_row": "text", "row_shown": "row", "sum_of": "row stretch", "sums_ahead": "row"},
    "told": {name: "row total" for name in "count_with all_with first_with longest_with shortest_with".split()},
    "bounds": {
        "count_within": "row low high", "first_within": "row low high", "longest_within": "row low high",
        "shortest_within": "row low high", "shortest_from": "row low", "longest_to": "row high",
    },
    "rests": {
        "count_rest": "row m rest", "first_rest": "row m rest", "longest_rest": "row m rest",
        "shortest_rest": "row m rest", "counts_by_rest": "row m",
    },
    "orders": {"in_order": "row number", "count_below": "row total", "nearest": "row total", "ends_of": "row"},
    "apart": {name: "row total" for name in "most_apart count_partings first_parting most_numbers".split()},
    "papers": {
        "points_of": "row total", "points_shown": "row total points", "apart_shown": "row total stretches",
        "none_paper": "row low high", "none_shown": "row low high paper",
    },
    "kept": {"KeptRow": "row total"},
    "whole": {"Desk": ""},
}

METHODS = (
    (KeptRow, {
        "put_number": "number", "take_number": "", "lead_number": "place number", "row_now": "", "count_now": "",
        "first_now": "", "longest_now": "",
    }),
    (Desk, {"ask": "line"}),
)

# For each name of the interface, a call with each kind of thing handed in.
ROW = (3, -1, 2, -2, 3)
CALLS = (
    (read_row, "3 -1 2 -2 3"), (row_shown, ROW), (sum_of, ROW, (1, 3)), (sums_ahead, ROW),
    (count_with, ROW, 2), (all_with, ROW, 2), (first_with, ROW, 2), (longest_with, ROW, 2), (shortest_with, ROW, 2),
    (count_within, ROW, 2, 3), (first_within, ROW, 2, 3), (longest_within, ROW, 2, 3), (shortest_within, ROW, 2, 3),
    (shortest_from, ROW, 4), (longest_to, ROW, 4),
    (count_rest, ROW, 4, 3), (first_rest, ROW, 4, 3), (longest_rest, ROW, 4, 3), (shortest_rest, ROW, 4, 3),
    (counts_by_rest, ROW, 4),
    (in_order, ROW, 7), (count_below, ROW, 2), (nearest, ROW, 9), (ends_of, ROW),
    (most_apart, ROW, 3), (count_partings, ROW, 5), (first_parting, ROW, 5), (most_numbers, ROW, 3),
    (points_of, ROW, 3), (points_shown, ROW, 3, (0, 4)), (apart_shown, ROW, 3, ((0, 1), (4, 5))),
    (none_paper, ROW, 6, 9), (none_shown, ROW, 6, 9, (0, 2, 4, 1, 3, 5)),
)

# A call of each that refuses, with what it refuses.
REFUSED = (
    (NoText, read_row, "3 x"), (NoText, read_row, "-0"), (NoStretch, sum_of, ROW, (2, 2)),
    (NoRest, count_rest, ROW, 0, 0), (NoRest, first_rest, ROW, 4, 4), (NoRest, longest_rest, ROW, 4, -1),
    (NoRest, shortest_rest, ROW, -1, 0), (NoRest, counts_by_rest, ROW, 0), (NoStretch, in_order, ROW, 15),
    (NoPlace, KeptRow((), 2).take_number), (NoPlace, KeptRow(ROW, 2).lead_number, 5, 1), (NoAsk, Desk().ask, "show a"),
)


class Interface(unittest.TestCase):
    def test_functions_and_classes(self):
        for module, names in FUNCTIONS.items():
            loaded = importlib.import_module(f"toldsums.{module}")
            for name, arguments in names.items():
                with self.subTest(name=name):
                    found = getattr(loaded, name)
                    self.assertEqual(found.__module__, f"toldsums.{module}")
                    self.assertEqual(list(inspect.signature(found).parameters), arguments.split())

    def test_methods(self):
        for owner, names in METHODS:
            for name, arguments in names.items():
                with self.subTest(name=name):
                    parameters = list(inspect.signature(getattr(owner, name)).parameters)
                    self.assertEqual(parameters[1:], arguments.split())

    def test_every_name_is_called_here(self):
        called = {call[0].__name__ for call in CALLS} | {"KeptRow", "Desk"}
        self.assertEqual(called, {name for names in FUNCTIONS.values() for name in names})


class Alike(unittest.TestCase):
    """[2]: nothing handed in is changed, the same is answered the same, what is told is the asker's own."""

    def test_asked_again_in_whatever_order(self):
        before = [function(*given) for function, *given in CALLS]
        told = repr(before)
        for turn in range(2):
            for function, *given in reversed(CALLS):
                function(*given)
            for refusal, function, *given in REFUSED:
                self.assertRaises(refusal, function, *given)
            self.assertEqual([function(*given) for function, *given in CALLS], before)
        self.assertEqual(repr(before), told)

    def test_what_is_handed_in_is_not_changed(self):
        before = repr(CALLS)
        for function, *given in CALLS:
            function(*given)
        self.assertEqual(repr(CALLS), before)
        # Lists would show what is done to them.
        for function, *given in CALLS:
            if given[0] == ROW and function not in (points_shown, apart_shown, none_shown):
                row = list(ROW)
                self.assertEqual(function(row, *given[1:]), function(*given), function.__name__)
                self.assertEqual(row, list(ROW), function.__name__)

    def test_what_is_told_holds_no_list_but_where_one_is_named(self):
        for function, *given in CALLS:
            told = function(*given)
            self.assertIs(type(told) is list, function is all_with, function.__name__)
            for part in told if type(told) in (list, tuple) else ():
                self.assertIn(type(part), (int, tuple), function.__name__)

    def test_refusals(self):
        for refusal, function, *given in REFUSED:
            with self.assertRaises(SumError) as caught:
                function(*given)
            self.assertIs(type(caught.exception), refusal)

    def test_another_run_answers_the_same(self):
        lines = ["row a 3 -1 2 -2 3", "count a 2", "apart a 3", "points a 3", "parted a 5", "rest a 4 3", "near a 9"]
        code = f"from toldsums.whole import Desk\ndesk = Desk()\nprint([desk.ask(line) for line in {lines!r}])"
        desk = Desk()
        here = repr([desk.ask(line) for line in lines])
        for seed in ("0", "1", "77"):
            run = subprocess.run([sys.executable, "-c", code], cwd=TOP, env={"PYTHONHASHSEED": seed,
                                 "PYTHONDONTWRITEBYTECODE": "1"}, capture_output=True, text=True, check=True)
            self.assertEqual(run.stdout.strip(), here)


class GoneThrough(unittest.TestCase):
    """[1] and [3]: all that is told of one row is what going through its stretches tells."""

    def look_at(self, row, total, other):
        pairs = every_sum(row)
        count, found, *chosen = gone_through(pairs, lambda own: own == total)
        self.assertEqual(all_with(row, total), found)
        self.assertEqual([count_with(row, total), count_within(row, total, total)], [count, count])
        self.assertEqual([first_with(row, total), longest_with(row, total), shortest_with(row, total)], chosen)
        self.assertEqual([sum_of(row, stretch) for stretch in found], [total] * count)
        count, found, *chosen = gone_through(pairs, lambda own: total <= own <= other)
        self.assertEqual(count_within(row, total, other), count)
        self.assertEqual([first_within(row, total, other), longest_within(row, total, other),
                          shortest_within(row, total, other)], chosen)
        if total <= other:
            self.assertEqual(count_below(row, other + 1) - count_below(row, total), count)
        self.assertEqual(none_paper(row, total, other) is None, count > 0)
        self.assertEqual([in_order(row, number) for number in range(len(pairs))], sorted(pairs))
        kept = KeptRow(row[:-1], total)
        if row:
            kept.put_number(row[-1])
        self.assertEqual((kept.count_now(), kept.first_now(), kept.longest_now()),
                         (count_with(row, total), first_with(row, total), longest_with(row, total)))
        self.look_at_apart(row, total)

    def look_at_apart(self, row, total):
        stretches = most_apart(row, total)
        points = points_of(row, total)
        self.assertTrue(apart_shown(row, total, stretches))
        self.assertTrue(points_shown(row, total, points))
        self.assertEqual(len(stretches), len(points))
        parting = first_parting(row, total)
        self.assertEqual(parting is None, count_partings(row, total) == 0)
        if parting is not None:
            self.assertTrue(apart_shown(row, total, parting))
            self.assertEqual(numbers_in(parting), len(row))
            self.assertEqual(most_numbers(row, total), len(row))
        self.assertGreaterEqual(most_numbers(row, total), numbers_in(stretches))

    def test_every_short_row(self):
        for row in short_rows(4):
            for total, other in ((0, 0), (1, 3), (-2, 1), (3, -1)):
                self.look_at(row, total, other)

    def test_rows_of_each_kind(self):
        for row in rows_to_ask():
            if len(row) < 20:
                self.look_at(row, sum(row[:2]), sum(row))
            self.look_at_apart(row, sum(row[:2]))


class Papers(unittest.TestCase):
    """[3]: papers that are let by show what they say, whoever wrote them."""

    def test_points_let_by_show_that_no_more_are_apart(self):
        for row in short_rows(3):
            for total in (-1, 0, 1, 3):
                most = max(len(stretches) for stretches in apart_with(row, total))
                for size in range(4):
                    for points in itertools.product(range(-1, len(row) + 1), repeat=size):
                        if points_shown(row, total, points):
                            self.assertLessEqual(most, len(points), (row, total, points))

    def test_stretches_let_by_are_apart(self):
        pairs = list(itertools.product(range(-1, 4), repeat=2))
        for row in short_rows(2):
            for total in (0, 1):
                sets = apart_with(row, total)
                for size in range(3):
                    for stretches in itertools.product(pairs, repeat=size):
                        self.assertEqual(apart_shown(row, total, stretches), stretches in sets, (row, total, stretches))

    def test_a_paper_let_by_shows_that_none_is_within(self):
        for row in short_rows(3):
            for low, high in ((0, 0), (1, 2), (2, 1), (-3, -1), (-9, 9)):
                for paper in itertools.permutations(range(len(row) + 1)):
                    if none_shown(row, low, high, paper):
                        self.assertEqual([own for own, stretch in every_sum(row) if low <= own <= high], [])


if __name__ == "__main__":
    unittest.main()
