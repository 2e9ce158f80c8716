import inspect
import random
import unittest

from asked import FOURTEEN, GREAT, every_sum, gone_through, numbers_to_ask, rows_to_ask
from toldsums.apart import count_partings, first_parting, most_apart
from toldsums.errors import NoAsk, NoPlace, NoRest, NoStretch
from toldsums.orders import in_order, nearest
from toldsums.papers import points_shown
from toldsums.whole import Desk

ROW = "3 -1 2 -2 3"

ANSWERED = (
    ("show a", [ROW]),
    ("count a 2", ["4", "0 2", "0 4", "2 3"]),
    ("count a 3", ["3", "0 1", "2 5", "0 1"]),
    ("count a 6", ["0", "-", "-", "-"]),
    ("count a -2", ["1", "3 4", "3 4", "3 4"]),
    ("within a 3 4", ["4", "0 1", "0 3", "0 1"]),
    ("within a -2 5", ["15", "0 1", "0 5", "0 1"]),
    ("within a 5 -2", ["0", "-", "-", "-"]),
    ("rest a 4 3", ["5", "0 1", "1 4", "0 1"]),
    ("rest a 1 0", ["15", "0 1", "0 5", "0 1"]),
    ("rest a 1000000 6", ["0", "-", "-", "-"]),
    ("order a 0", ["-2 3 4"]),
    ("order a 14", ["5 0 5"]),
    ("near a 9", ["5 0 5"]),
    ("near a -9", ["-2 3 4"]),
    ("near a 2", ["2 0 2"]),
    ("apart a 2", ["0 2", "2 3"]),
    ("apart a 3", ["0 1", "2 5"]),
    ("apart a 6", []),
    ("points a 6", [""]),
    ("parted a 5", ["1", "0 5"]),
    ("parted a 2", ["0"]),
    # Of no numbers.
    ("show none", [""]),
    ("count none 0", ["0", "-", "-", "-"]),
    ("within none -5 5", ["0", "-", "-", "-"]),
    ("rest none 1 0", ["0", "-", "-", "-"]),
    ("near none 0", []),
    ("apart none 0", []),
    ("points none 0", [""]),
    ("parted none 0", ["1"]),
    ("parted none 7", ["1"]),
    # Of one.
    ("show one", ["0"]),
    ("count one 0", ["1", "0 1", "0 1", "0 1"]),
    ("order one 0", ["0 0 1"]),
    ("near one 5", ["0 0 1"]),
    ("apart one 0", ["0 1"]),
    ("points one 0", ["0"]),
    ("parted one 0", ["1", "0 1"]),
    # Of sixty noughts.
    ("count noughts 0", ["1830", "0 1", "0 60", "0 1"]),
    ("apart noughts 0", [f"{at} {at + 1}" for at in range(60)]),
    ("points noughts 0", [" ".join(str(at) for at in range(60))]),
    ("parted noughts 0", [str(2 ** 59)] + [f"{at} {at + 1}" for at in range(60)]),
)

NO_LINES = (
    "", " ", "  ", "\n", "a", "row", "lead", "show", "count", "within", "rest", "order", "near", "apart", "points",
    "parted",
    # Words lacking, or too many.
    "lead a", "lead a 0", "lead a 0 1 2", "show a 1", "show a a", "count a", "count a 1 2", "within a", "within a 1",
    "within a 1 2 3", "rest a", "rest a 4", "rest a 4 3 2", "order a", "order a 0 0", "near a", "near a 1 1", "apart a",
    "apart a 1 1", "points a", "points a 1 1", "parted a", "parted a 1 1",
    # Blanks doubled, ahead and behind.
    "show  a", " show a", "show a ", "count a  2", "count  a 2", " count a 2", "count a 2 ", "row  b 1", "row b  1",
    "row b 1  2", " row b 1", "row b 1 ", "row b ", "row ", "show ", "lead a  0 1", "lead a 0  1", "lead a 0 1 ",
    "within a 3  4", "rest a 4 3 ", "\tshow a", "show\ta",
    # Line ends.
    "show a\n", "\nshow a", "show\na", "show \na", "show a\n\n", "count a 2\n", "count a\n2", "row b 1\n", "row b\n",
    "row b\n1", "row b 1\n2", "row\nb 1", "row b 1 \n2", "lead a 0 1\n", "lead a 0\n1", "parted a 5\n", "show a\nshow a",
    # Words unknown.
    "rows b 1", "Row b 1", "ROW b 1", "put b 1", "Show a", "shows a", "sho a", "counts a 2", "first a 2", "longest a 2",
    "total a 2", "none a 2 3", "a show", "a 1 2", "1 a 2", "-", "- a", "show: a", "a a", "kept a", "take a", "point a 3",
    # Names that are none.
    "row abcdefghi 1", "row A 1", "row aB 1", "row a1 1", "row 1 1", "row a_b 1", "row a-b 1", "row - 1", "row . 1",
    "row a. 1", "row ~ 1", "row \"a\" 1", "row \u00e4 1", "row a\n 1", "row ,a", "row -1", "row 0", "row 7 7", "show A",
    "show abcdefghi", "show -", "show 1", "count A 2", "lead A 0 1", "row aaaaaaaaaaaaaaaaaaaa",
    # Names that are not there.
    "show b", "show z", "show row", "show aa", "count b 2", "within b 3 4", "rest b 4 3", "order b 0", "near b 9",
    "apart b 2", "points b 2", "parted b 5", "lead b 0 1", "show abcdefgh",
)

# Words that are no number, in whatever line.
NO_NUMBERS = (
    "", "-", "--1", "+1", "+", "x", "a", "1a", "a1", "1.0", "1,0", "1_0", "1e3", "0x1", "00", "01", "-01", "007", "-0",
    "-00", "1-", "1-2", "one", "None", "~", "\n", "1\n", "\n1", "\u0661", "1\u00b2", "9" * 15, "-" + "9" * 15, "1" * 15,
    "9" * 400, "-" + "9" * 400, "0" * 12, "0" + "9" * 11, "1" + "0" * 14, "9" * 5000, "9" * 5000 + "x",
)

# Where a word stands for {} a number is asked for that is not a row's own.
ASKED_NUMBERS = (
    "lead a {} 1", "count a {}", "within a {} 4", "within a 3 {}", "rest a {} 3", "rest a 4 {}", "order a {}", "near a {}",
    "apart a {}", "points a {}", "parted a {}",
)
OWN_NUMBERS = ("row a {}", "row b {}", "row a 1 {}", "row a {} 1", "row b 1 {} 2", "lead a 0 {}", "lead a 4 {}")

REFUSED_BY_PARTS = (
    ("lead a -1 5", NoPlace), ("lead a 5 5", NoPlace), ("lead a 6 5", NoPlace), ("lead a -5 5", NoPlace),
    (f"lead a {FOURTEEN} 5", NoPlace), (f"lead a -{FOURTEEN} {GREAT}", NoPlace), ("lead none 0 5", NoPlace),
    ("lead none -1 5", NoPlace), ("lead one 1 5", NoPlace), ("lead one -1 0", NoPlace), ("lead noughts 60 5", NoPlace),
    ("order a 15", NoStretch), ("order a -1", NoStretch), (f"order a {FOURTEEN}", NoStretch),
    (f"order a -{FOURTEEN}", NoStretch), ("order none 0", NoStretch), ("order none -1", NoStretch),
    ("order one 1", NoStretch), ("order noughts 1830", NoStretch),
    ("rest a 0 0", NoRest), ("rest a -1 0", NoRest), ("rest a 4 4", NoRest), ("rest a 4 -1", NoRest),
    ("rest a 1 1", NoRest), (f"rest a -{FOURTEEN} 5", NoRest), (f"rest a 4 {FOURTEEN}", NoRest), ("rest none 0 0", NoRest),
    ("rest none 3 3", NoRest),
)

# The parts would refuse, but the line is none.
NO_LINES_AHEAD_OF_PARTS = (
    "lead a 9", "lead a 9 1 1", "lead a 9 x", "lead a -1 01", "lead a 9 1000000000000", "lead a -1 -0", "lead b 9 1",
    "lead a 9  1", "lead a 9 1 ", "lead a 9 1\n", "lead none 0 x", "lead none 0 1 1", "lead A 9 1", "lead a 1" + "0" * 14 + " 1",
    "order a 15 1", "order a 15 ", "order b 15", "order a 15\n", "order a 1" + "0" * 14, "order a -1 x", "order none",
    "order b -1", "orders a -1",
    "rest a 0", "rest a 0 0 0", "rest b 0 0", "rest a 0 x", "rest a x 0", "rest a 0 -0", "rest a 4 04", "rest a 0 0 ",
    "rest a  0 0", "rest a 0 0\n", "rest a -1 1" + "0" * 14, "rest a -1" + "0" * 14 + " 0", "rest none 0", "Rest a 0 0",
)


def filled():
    """A desk with a few rows."""
    desk = Desk()
    for line in (f"row a {ROW}", "row none", "row one 0", "row noughts" + " 0" * 60):
        assert desk.ask(line) == []
    return desk


def shown(desk):
    """All that the desk of filled() tells of its rows."""
    return [desk.ask(f"show {name}") for name in ("a", "none", "one", "noughts")]


FILLED = [[ROW], [""], ["0"], [" ".join("0" * 60)]]


class Answers(unittest.TestCase):
    def test_by_hand(self):
        desk = filled()
        for turn in range(2):
            for line, answer in ANSWERED:
                with self.subTest(line=line):
                    self.assertEqual(desk.ask(line), answer)

    def test_kinds(self):
        desk = filled()
        for line, answer in ANSWERED + (("row b 1", []), ("lead a 0 3", [])):
            told = desk.ask(line)
            self.assertIs(type(told), list)
            self.assertTrue(all(type(text) is str for text in told), line)

    def test_rows_of_each_kind(self):
        desk = Desk()
        for row in rows_to_ask():
            pairs = every_sum(row)
            self.assertEqual(desk.ask(" ".join(["row", "kind"] + [str(number) for number in row])), [])
            self.assertEqual(desk.ask("show kind"), [" ".join(str(number) for number in row)])
            numbers = numbers_to_ask(pairs)
            for total, other in zip(numbers, numbers[1:] + numbers[:1]):
                self.look_at_stretches(desk, pairs, total, other)
                self.look_at_apart(desk, row, total)
                self.look_at_order(desk, row, total)

    def look_at_stretches(self, desk, pairs, total, other):
        m = abs(other) + 1
        for line, wanted in (
            (f"count kind {total}", lambda own: own == total),
            (f"within kind {total} {other}", lambda own: total <= own <= other),
            (f"rest kind {m} {total % m}", lambda own: own % m == total % m),
        ):
            if len(str(m)) > 14 and line.startswith("rest"):
                continue
            count, found, *chosen = gone_through(pairs, wanted)
            answer = [str(count)] + ["-" if one is None else f"{one[0]} {one[1]}" for one in chosen]
            self.assertEqual(desk.ask(line), answer, line)

    def look_at_apart(self, desk, row, total):
        stretches = [f"{low} {high}" for low, high in most_apart(row, total)]
        self.assertEqual(desk.ask(f"apart kind {total}"), stretches)
        parting = [f"{low} {high}" for low, high in first_parting(row, total) or ()]
        self.assertEqual(desk.ask(f"parted kind {total}"), [str(count_partings(row, total))] + parting)
        told = desk.ask(f"points kind {total}")
        self.assertEqual(len(told), 1)
        points = tuple(int(word) for word in told[0].split())
        self.assertEqual(told[0], " ".join(str(point) for point in points))
        self.assertEqual(len(points), len(stretches))
        self.assertTrue(points_shown(row, total, points))

    def look_at_order(self, desk, row, total):
        def text(pair):
            return f"{pair[0]} {pair[1][0]} {pair[1][1]}"

        many = len(row) * (len(row) + 1) // 2
        self.assertEqual(desk.ask(f"near kind {total}"), [text(nearest(row, total))] if row else [])
        for number in (0, 1, many // 2, many - 1):
            if 0 <= number < many:
                self.assertEqual(desk.ask(f"order kind {number}"), [text(in_order(row, number))])


class Rows(unittest.TestCase):
    def test_a_row_in_the_place_of_another(self):
        desk = filled()
        for line, text in (
            ("row a 1 2", "1 2"), ("row a", ""), ("row a 5", "5"), ("row a 5", "5"), ("row a -7 0 7", "-7 0 7"),
        ):
            self.assertEqual(desk.ask(line), [])
            self.assertEqual(desk.ask("show a"), [text])
            self.assertEqual(shown(desk)[1:], FILLED[1:])

    def test_a_number_led_to_another(self):
        desk = filled()
        for line, text in (
            ("lead a 0 9", "9 -1 2 -2 3"), ("lead a 4 -9", "9 -1 2 -2 -9"), ("lead a 2 2", "9 -1 2 -2 -9"),
            ("lead a 1 0", "9 0 2 -2 -9"), (f"lead a 3 {GREAT}", f"9 0 2 {GREAT} -9"),
            (f"lead a 3 -{GREAT}", f"9 0 2 -{GREAT} -9"),
        ):
            self.assertEqual(desk.ask(line), [])
            self.assertEqual(desk.ask("show a"), [text])
            self.assertEqual(shown(desk)[1:], FILLED[1:])
        self.assertEqual(desk.ask("count a 0"), ["1", "1 2", "1 2", "1 2"])
        self.assertEqual(desk.ask("lead noughts 59 5"), [])
        self.assertEqual(desk.ask("show noughts"), ["0 " * 59 + "5"])

    def test_names(self):
        desk = Desk()
        names = ["a", "z", "az", "abcdefgh", "zzzzzzzz", "ijklmnop", "qrstuvwx", "yz"]
        # Words of the lines are names as well.
        names += "row lead show count within rest order near apart points parted".split()
        for at, name in enumerate(names, 1):
            self.assertEqual(desk.ask(f"row {name} {at} {-at}"), [])
        for at, name in enumerate(names, 1):
            self.assertEqual(desk.ask(f"show {name}"), [f"{at} {-at}"])
            self.assertEqual(desk.ask(f"order {name} 0"), [f"{-at} 1 2"])
            self.assertEqual(desk.ask(f"lead {name} 1 5"), [])
        for at, name in enumerate(names, 1):
            self.assertEqual(desk.ask(f"show {name}"), [f"{at} 5"])

    def test_rows_of_sixty_and_of_sixty_one(self):
        desk = filled()
        for number in ("7", "-" + "9" * 12):
            self.assertEqual(desk.ask("row a" + f" {number}" * 60), [])
            text = " ".join([number] * 60)
            self.assertEqual(desk.ask("show a"), [text])
            for many in (61, 62, 70):
                self.assertRaises(NoAsk, desk.ask, "row a" + f" {number}" * many)
                self.assertRaises(NoAsk, desk.ask, "row b" + f" {number}" * many)
                self.assertEqual(desk.ask("show a"), [text])
                self.assertRaises(NoAsk, desk.ask, "show b")
        self.assertRaises(NoAsk, desk.ask, "row a" + " 7" * 59 + " x")
        self.assertEqual(desk.ask("row a" + " 7" * 59), [])
        self.assertEqual(desk.ask("count a 7")[0], "59")

    def test_two_desks(self):
        one = filled()
        other = Desk()
        self.assertRaises(NoAsk, other.ask, "show a")
        other.ask("row a 1")
        one.ask("lead a 0 7")
        self.assertEqual(other.ask("show a"), ["1"])
        self.assertEqual(one.ask("show a"), ["7 -1 2 -2 3"])

    def test_a_told_list_is_the_askers_own(self):
        desk = filled()
        for line, answer in ANSWERED + (("row b 1", []), ("lead b 0 1", [])):
            mine = desk.ask(line)
            mine.append("more")
            mine.reverse()
            kept = desk.ask(line)
            self.assertEqual(kept, answer, line)
            mine.clear()
            desk.ask("show one")
            self.assertEqual(kept, answer, line)
        self.assertEqual(shown(desk), FILLED)
        before = desk.ask("show a")
        desk.ask("lead a 0 8")
        desk.ask("row a")
        self.assertEqual(before, [ROW])


class Refused(unittest.TestCase):
    def look_at(self, desk, line, refusal):
        with self.subTest(line=line[:60]):
            with self.assertRaises(refusal):
                desk.ask(line)
            self.assertEqual(shown(desk), FILLED)
            # Nothing was put in under the other name that the lines have.
            self.assertRaises(NoAsk, desk.ask, "show b")

    def test_lines_that_are_none(self):
        desk = filled()
        for line in NO_LINES:
            self.look_at(desk, line, NoAsk)

    def test_every_line_on_an_empty_desk(self):
        for line, answer in ANSWERED:
            self.assertRaises(NoAsk, Desk().ask, line)

    def test_words_that_are_no_numbers(self):
        desk = filled()
        for place in ASKED_NUMBERS + OWN_NUMBERS:
            for word in NO_NUMBERS:
                self.look_at(desk, place.format(word), NoAsk)

    def test_figures_of_a_rows_own_numbers(self):
        desk = filled()
        for place in OWN_NUMBERS:
            for figures in (13, 14, 15, 20):
                for word in ("9" * figures, "1" + "0" * (figures - 1), "-" + "9" * figures, "-1" + "0" * (figures - 1)):
                    self.look_at(desk, place.format(word), NoAsk)
        for figures in (1, 11, 12):
            for word in ("9" * figures, "-" + "9" * figures):
                for place in OWN_NUMBERS:
                    fresh = filled()
                    self.assertEqual(fresh.ask(place.format(word)), [], (place, word))
                    self.assertIn(word, fresh.ask("show " + place.split()[1])[0].split(" "))

    def test_figures_of_numbers_asked_for(self):
        for figures in (11, 12, 13, 14):
            for word in ("9" * figures, "-" + "9" * figures):
                desk = filled()
                self.assertEqual(desk.ask(f"count a {word}"), ["0", "-", "-", "-"])
                self.assertEqual(desk.ask(f"near a {word}"), ["-2 3 4" if word[0] == "-" else "5 0 5"])
                self.assertEqual(desk.ask(f"apart a {word}"), [])
                self.assertEqual(desk.ask(f"points a {word}"), [""])
                self.assertEqual(desk.ask(f"parted a {word}"), ["0"])
                self.assertRaises(NoStretch, desk.ask, f"order a {word}")
                self.assertRaises(NoPlace, desk.ask, f"lead a {word} 1")
            word = "9" * figures
            self.assertEqual(desk.ask(f"within a -{word} {word}")[0], "15")
            self.assertEqual(desk.ask(f"rest a {word} 5"), ["1", "0 5", "0 5", "0 5"])

    def test_as_the_parts_refuse(self):
        desk = filled()
        for line, refusal in REFUSED_BY_PARTS:
            self.look_at(desk, line, refusal)

    def test_lines_that_are_none_ahead_of_what_the_parts_refuse(self):
        desk = filled()
        for line in NO_LINES_AHEAD_OF_PARTS:
            self.look_at(desk, line, NoAsk)

    def test_behind_all_refusals_answers_are_the_same(self):
        desk = filled()
        refused = list(NO_LINES + NO_LINES_AHEAD_OF_PARTS) + [line for line, refusal in REFUSED_BY_PARTS]
        random.Random(19).shuffle(refused)
        for line in refused:
            self.assertRaises((NoAsk, NoPlace, NoStretch, NoRest), desk.ask, line)
        for line, answer in ANSWERED:
            self.assertEqual(desk.ask(line), answer, line)


class Interface(unittest.TestCase):
    def test_arguments(self):
        self.assertEqual(list(inspect.signature(Desk).parameters), [])
        self.assertEqual(list(inspect.signature(Desk.ask).parameters), ["self", "line"])


if __name__ == "__main__":
    unittest.main()
