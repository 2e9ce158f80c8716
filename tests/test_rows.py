import itertools
import re
import unittest

from asked import GREAT, every_sum, rows_to_ask
from toldsums.errors import NoStretch, NoText
from toldsums.rows import length_of, read_row, row_shown, stretches_of, sum_of, summed_stretches, sums_ahead

SIXTY = tuple((-1) ** at * (at * 16_949_152_542 % 10 ** 12) for at in range(60))
SIGNS = [chr(code) for code in range(32, 127) if chr(code) != "\x25"] + ["\n"]

# A second way to say what a row's text is, from the words of the document.
ROW_TEXT = re.compile(r"((0|-?[1-9][0-9]*)( (0|-?[1-9][0-9]*))*)?\Z")

WRITTEN = (
    ("", ()),
    ("0", (0,)),
    ("7", (7,)),
    ("-7", (-7,)),
    ("10", (10,)),
    ("-10", (-10,)),
    ("0 0", (0, 0)),
    ("1 -2 0 30 -405", (1, -2, 0, 30, -405)),
    ("999999999999", (GREAT,)),
    ("-999999999999", (-GREAT,)),
    ("100000000000 -100000000000", (10 ** 11, -(10 ** 11))),
    ("0 1 2 3 4 5 6 7 8 9", tuple(range(10))),
)

NO_ROWS = (
    " ", "  ", " 1", "1 ", " 1 2", "1 2 ", "1  2", "1   2", "1 2  3",
    "01", "-01", "00", "-00", "000", "1 02", "0 00", "007 1",
    "-0", "1 -0", "-0 1", "-", "1 -", "- 1", "--1", "1-", "1-2", "-1-", "--",
    "+", "+1", "1 +2", "+0", "-+1", "+-1",
    "a", "1 a", "a 1", "1a", "a1", "-a", "1 O 2", "1e3", "0x1", "1_0", "1.0", "1,2", "(1, 2)",
    "\n", "\n1", "1\n", "1\n2", "1 \n2", "1\n 2", "1 2\n", "\n\n", "-\n1", "1 \n", "\n 1",
    "None", "True", "\"1\"", "~", "!", "0-", "0 -", "-1 --2",
)


class Texts(unittest.TestCase):
    def test_rows_are_written(self):
        for text, row in WRITTEN:
            with self.subTest(text=text):
                self.assertEqual(row_shown(row), text)

    def test_rows_are_read(self):
        for text, row in WRITTEN:
            with self.subTest(text=text):
                told = read_row(text)
                self.assertEqual(told, row)
                self.assertIs(type(told), tuple)
                self.assertTrue(all(type(number) is int for number in told))

    def test_what_is_written_is_read_back(self):
        rows = [(), SIXTY, (GREAT,) * 60, (-GREAT,) * 60, (0,) * 60, (-5,) * 60]
        for many in range(1, 13):
            rows.append((10 ** many - 1,))
            rows.append((-(10 ** (many - 1)), 10 ** (many - 1)))
        rows.extend((number,) for number in range(-120, 121))
        for row in rows:
            with self.subTest(row=row):
                self.assertEqual(read_row(row_shown(row)), row)

    def test_sixty_numbers_are_a_row(self):
        text = " ".join(str(number) for number in SIXTY)
        self.assertEqual(row_shown(SIXTY), text)
        self.assertEqual(read_row(text), SIXTY)

    def test_texts_of_no_row_are_refused(self):
        for text in NO_ROWS:
            with self.subTest(text=text):
                self.assertRaises(NoText, read_row, text)

    def test_every_short_text(self):
        for many in range(6):
            for signs in itertools.product("01-+ \nx", repeat=many):
                self.look_at("".join(signs))

    def test_every_sign_that_a_text_may_hold(self):
        for sign in SIGNS:
            for text in (sign, "1" + sign, sign + "1", "1" + sign + "2", "1 " + sign, sign + " 1", "-" + sign):
                self.look_at(text)

    def look_at(self, text):
        if ROW_TEXT.match(text):
            self.assertEqual(read_row(text), tuple(int(word) for word in text.split()), text)
        else:
            with self.assertRaises(NoText, msg=repr(text)):
                read_row(text)

    def test_figures_of_other_scripts_are_none(self):
        for text in ("\u0661", "1\u00b2", "\uff11", "1\u00a02", "1\t2", "1\r"):
            with self.subTest(text=text):
                self.assertRaises(NoText, read_row, text)

    def test_a_word_that_is_none_among_many_or_long_ones(self):
        many = ["5"] * 80
        long = ["9" * 30, "-" + "8" * 13, "1" * 300]
        beyond_int = ["7" * 6000]
        for words in (many, long, beyond_int):
            for wrong in ("x", "-0", "01", "", "-", "+1", "1\n"):
                for at in (0, len(words) // 2, len(words)):
                    text = " ".join(words[:at] + [wrong] + words[at:])
                    with self.subTest(words=len(words), wrong=wrong, at=at):
                        self.assertRaises(NoText, read_row, text)
        self.assertRaises(NoText, read_row, "0" + "9" * 40)
        self.assertRaises(NoText, read_row, "9" * 40 + "x")

    def test_somewhat_beyond_the_bounds_nothing_is_refused(self):
        for row in ((1,) * 61, (10 ** 12,), (-(10 ** 15), 3), (GREAT,) * 90):
            with self.subTest(row=row):
                self.assertEqual(read_row(row_shown(row)), row)


class Stretches(unittest.TestCase):
    def test_sums_of_stretches(self):
        row = (3, -1, 2, -2, 3)
        for stretch, total in (
            ((0, 1), 3), ((1, 2), -1), ((4, 5), 3), ((0, 2), 2), ((1, 4), -1), ((3, 5), 1), ((0, 5), 5), ((1, 5), 2),
        ):
            with self.subTest(stretch=stretch):
                self.assertEqual(sum_of(row, stretch), total)
        self.assertEqual(sum_of((0,), (0, 1)), 0)
        self.assertEqual(sum_of((GREAT,) * 60, (0, 60)), 60 * GREAT)
        self.assertEqual(sum_of((-GREAT,) * 60, (0, 60)), -60 * GREAT)

    def test_every_pair_of_places(self):
        for many in (0, 1, 2, 5, 60):
            row = SIXTY[:many]
            for low in range(-3, many + 3):
                for high in range(-3, many + 3):
                    if 0 <= low < high <= many:
                        total = 0
                        for at in range(low, high):
                            total += row[at]
                        self.assertEqual(sum_of(row, (low, high)), total, (low, high))
                    else:
                        with self.assertRaises(NoStretch, msg=(many, low, high)):
                            sum_of(row, (low, high))

    def test_pairs_that_are_no_stretch(self):
        row = (3, -1, 2)
        for stretch in (
            (0, 0), (1, 1), (3, 3), (2, 1), (3, 0), (-1, 1), (-1, 0), (-3, -1), (-2, 3),
            (0, 4), (2, 4), (3, 4), (4, 5), (0, -1), (10 ** 20, 10 ** 21), (0, 10 ** 5000), (-(10 ** 5000), 1),
        ):
            with self.subTest(stretch=stretch[0].bit_length()):
                self.assertRaises(NoStretch, sum_of, row, stretch)

    def test_a_row_of_no_numbers_has_no_stretch(self):
        for stretch in ((0, 0), (0, 1), (-1, 0), (1, 0), (1, 2)):
            with self.subTest(stretch=stretch):
                self.assertRaises(NoStretch, sum_of, (), stretch)

    def test_all_stretches_in_order(self):
        self.assertEqual(stretches_of(()), [])
        self.assertEqual(stretches_of((5,)), [(0, 1)])
        self.assertEqual(stretches_of((5, 5, 5)), [(0, 1), (0, 2), (0, 3), (1, 2), (1, 3), (2, 3)])
        self.assertEqual(len(stretches_of(SIXTY)), 1830)
        self.assertEqual(length_of((2, 7)), 5)

    def test_all_stretches_with_their_sums(self):
        for row in rows_to_ask():
            self.assertEqual(summed_stretches(row), every_sum(row), row)


class Ahead(unittest.TestCase):
    def test_sums_ahead(self):
        for row, ahead in (
            ((), (0,)),
            ((0,), (0, 0)),
            ((-4,), (0, -4)),
            ((3, -1, 2, -2, 3), (0, 3, 2, 4, 2, 5)),
            ((GREAT, GREAT, -GREAT), (0, GREAT, 2 * GREAT, GREAT)),
        ):
            with self.subTest(row=row):
                self.assertEqual(sums_ahead(row), ahead)
                self.assertIs(type(sums_ahead(row)), tuple)

    def test_sums_ahead_of_sixty(self):
        ahead = sums_ahead(SIXTY)
        self.assertEqual(len(ahead), 61)
        for at in range(61):
            self.assertEqual(ahead[at], sum(SIXTY[:at]))


class Alike(unittest.TestCase):
    """The same asked again is answered the same, and nothing handed in is changed."""

    def test_asked_again(self):
        row = tuple([3, -1, 0, 2])
        stretch = tuple([1, 3])
        first = (row_shown(row), read_row("3 -1 0 2"), sum_of(row, stretch), sums_ahead(row))
        self.assertRaises(NoText, read_row, "3 x")
        self.assertRaises(NoStretch, sum_of, row, (2, 2))
        sums_ahead((9, 9))
        again = (row_shown(row), read_row("3 -1 0 2"), sum_of(row, stretch), sums_ahead(row))
        self.assertEqual(first, again)
        self.assertEqual(first, ("3 -1 0 2", (3, -1, 0, 2), -1, (0, 3, 2, 2, 4)))
        self.assertEqual(row, (3, -1, 0, 2))
        self.assertEqual(stretch, (1, 3))

    def test_a_changed_list_of_stretches_changes_nothing(self):
        stretches_of((1, 2)).clear()
        self.assertEqual(stretches_of((1, 2)), [(0, 1), (0, 2), (1, 2)])


if __name__ == "__main__":
    unittest.main()
