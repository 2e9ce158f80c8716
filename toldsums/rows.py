"""Rows as texts, their stretches, and the sums of these."""

from toldsums.errors import NoStretch, NoText

FIGURES = "0123456789"


def read_row(text):
    """The row that a text shows; NoText where it shows none."""
    if text == "":
        return ()
    words = text.split(" ")
    # All words are looked at ahead of the first int(), so that a word that is
    # none is refused with NoText however long the words ahead of it are.
    for word in words:
        if not is_number(word):
            raise NoText("a row is whole numbers parted by single blanks")
    return tuple([int(word) for word in words])


def is_number(word):
    """Whether a word is a whole number as rows are written."""
    figures = word.removeprefix("-")
    if figures == "":
        return False
    # isdigit() and int() also take signs beyond the ten figures.
    if not all([sign in FIGURES for sign in figures]):
        return False
    return word == "0" or figures[0] != "0"


def row_shown(row):
    """The text of a row."""
    return " ".join([str(number) for number in row])


def sum_of(row, stretch):
    """The sum of a stretch; NoStretch where the pair is none of the row's."""
    low, high = stretch
    if not 0 <= low < high <= len(row):
        # The places are left out: Python does not write out every great number.
        raise NoStretch("the pair is no stretch of the row")
    return sum(row[low:high])


def sums_ahead(row):
    """The sums of the first 0, 1, .. numbers, to all of them."""
    ahead = [0]
    for number in row:
        ahead.append(ahead[-1] + number)
    return tuple(ahead)


def stretches_of(row):
    """All stretches of a row, a list in order as pairs."""
    many = len(row)
    return [(low, high) for low in range(many) for high in range(low + 1, many + 1)]


def summed_stretches(row):
    """All stretches of a row as pairs (sum, stretch), a list in the order of the stretches."""
    ahead = sums_ahead(row)
    return [(ahead[high] - ahead[low], (low, high)) for low, high in stretches_of(row)]


def length_of(stretch):
    """How many numbers a stretch has."""
    low, high = stretch
    return high - low


# Of several as long, max and min keep the one that stands first. So where the
# list that is handed in is in order, it is the least as a pair.


def first_of(stretches):
    """The first of a list of stretches in order, or None."""
    return min(stretches, default=None)


def longest_of(stretches):
    """The first of the longest of a list of stretches in order, or None."""
    return max(stretches, key=length_of, default=None)


def shortest_of(stretches):
    """The first of the shortest of a list of stretches in order, or None."""
    return min(stretches, key=length_of, default=None)
