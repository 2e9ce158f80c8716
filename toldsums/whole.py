"""The desk: rows under names, asked of by lines of words."""

from toldsums.apart import count_partings, first_parting, most_apart
from toldsums.bounds import all_within
from toldsums.errors import NoAsk
from toldsums.kept import row_led
from toldsums.orders import in_order, nearest
from toldsums.papers import points_of
from toldsums.rests import all_rest
from toldsums.rows import first_of, is_number, longest_of, row_shown, shortest_of
from toldsums.told import all_with

LETTERS = "abcdefghijklmnopqrstuvwxyz"
NAME_LETTERS = 8
ROW_NUMBERS = 60
ROW_FIGURES = 12
ASKED_FIGURES = 14


def is_name(word):
    """Whether a row can be kept under this word."""
    return 1 <= len(word) <= NAME_LETTERS and all([sign in LETTERS for sign in word])


def number_read(word, figures):
    """The whole number that a word shows, of at most so many figures; NoAsk."""
    if not is_number(word) or len(word.removeprefix("-")) > figures:
        raise NoAsk("a word of the line is no number, or has too many figures")
    return int(word)


def row_of_words(words):
    """The row that the words behind a name show; NoAsk."""
    if len(words) > ROW_NUMBERS:
        raise NoAsk("a row has at most 60 numbers")
    return tuple([number_read(word, ROW_FIGURES) for word in words])


def stretch_shown(stretch):
    """The text of a stretch, or of None."""
    if stretch is None:
        return "-"
    low, high = stretch
    return f"{low} {high}"


def summed_shown(pair):
    """The text of a pair (sum, stretch)."""
    own, stretch = pair
    return f"{own} {stretch_shown(stretch)}"


def four_rows(stretches):
    """How many of a list of stretches in order there are, the first, the longest and the shortest."""
    chosen = [first_of(stretches), longest_of(stretches), shortest_of(stretches)]
    return [str(len(stretches))] + [stretch_shown(stretch) for stretch in chosen]


# The answers to lines that change nothing: each of a row and the numbers behind
# its name, a list of as many as NUMBERS_ASKED says.


def answer_show(row, numbers):
    """The row's text."""
    return [row_shown(row)]


def answer_count(row, numbers):
    """The stretches with a told sum."""
    return four_rows(all_with(row, numbers[0]))


def answer_within(row, numbers):
    """The stretches with a sum within bounds."""
    return four_rows(all_within(row, numbers[0], numbers[1]))


def answer_rest(row, numbers):
    """The stretches with a told rest; NoRest."""
    return four_rows(all_rest(row, numbers[0], numbers[1]))


def answer_order(row, numbers):
    """The stretch with a number in the order of the sums; NoStretch."""
    return [summed_shown(in_order(row, numbers[0]))]


def answer_near(row, numbers):
    """The stretch with the sum nearest to a told one, no row of no numbers."""
    pair = nearest(row, numbers[0])
    return [] if pair is None else [summed_shown(pair)]


def answer_apart(row, numbers):
    """The most stretches apart, a row each."""
    return [stretch_shown(stretch) for stretch in most_apart(row, numbers[0])]


def answer_points(row, numbers):
    """The points that hit all stretches with a told sum, in one row."""
    return [row_shown(points_of(row, numbers[0]))]


def answer_parted(row, numbers):
    """The number of partings, then the first one's stretches, a row each."""
    ways = [str(count_partings(row, numbers[0]))]
    parting = first_parting(row, numbers[0])
    return ways if parting is None else ways + [stretch_shown(stretch) for stretch in parting]


ANSWERS = {
    "show": answer_show,
    "count": answer_count,
    "within": answer_within,
    "rest": answer_rest,
    "order": answer_order,
    "near": answer_near,
    "apart": answer_apart,
    "points": answer_points,
    "parted": answer_parted,
}
NUMBERS_ASKED = {
    "show": 0,
    "count": 1,
    "within": 2,
    "rest": 2,
    "order": 1,
    "near": 1,
    "apart": 1,
    "points": 1,
    "parted": 1,
}


class Desk:
    """Keeps rows under names, and answers lines."""

    def __init__(self):
        self.rows_by_name = {}

    def ask(self, line):
        """The answer to a line, a list of texts; NoAsk, then as the parts refuse."""
        words = line.split(" ")
        if len(words) < 2:
            raise NoAsk("a line is a word, a name and numbers, parted by single blanks")
        word, name, *others = words
        if word == "row":
            return self.put_row(name, others)
        if word == "lead":
            return self.lead_in_row(name, others)
        return self.answer(word, name, others)

    def put_row(self, name, words):
        """A row put in, perhaps in the place of one of that name."""
        if not is_name(name):
            raise NoAsk("a name is one to eight small letters")
        self.rows_by_name[name] = row_of_words(words)
        return []

    def lead_in_row(self, name, words):
        """A number of a row led to another one; NoPlace."""
        row = self.row_named(name)
        if len(words) != 2:
            raise NoAsk("behind lead stand a name, a place and a number")
        place = number_read(words[0], ASKED_FIGURES)
        number = number_read(words[1], ROW_FIGURES)
        self.rows_by_name[name] = row_led(row, place, number)
        return []

    def answer(self, word, name, words):
        """The answer to a line that changes nothing."""
        row = self.row_named(name)
        if word not in ANSWERS or len(words) != NUMBERS_ASKED[word]:
            raise NoAsk("the first word is unknown, or numbers are lacking or too many")
        numbers = [number_read(other, ASKED_FIGURES) for other in words]
        answer_of_word = ANSWERS[word]
        return answer_of_word(row, numbers)

    def row_named(self, name):
        """The row that is kept under a name; NoAsk."""
        if name not in self.rows_by_name:
            raise NoAsk("no row is kept under this name")
        return self.rows_by_name[name]
