"""A row that changes, and the stretches with a told sum that it has by now."""

from toldsums.errors import NoPlace
from toldsums.told import count_with, first_with, longest_with


def row_led(row, place, number):
    """The row with the number at a place led to another one; NoPlace."""
    if not 0 <= place < len(row):
        raise NoPlace("the row has no number at this place")
    return row[:place] + (number,) + row[place + 1:]


class KeptRow:
    """A row for a told sum; each deed tells by how many more stretches have it than ahead of the deed."""

    def __init__(self, row, total):
        self.numbers = tuple(row)
        self.total = total

    def put_number(self, number):
        """A number put behind all."""
        return self.change_to(self.numbers + (number,))

    def take_number(self):
        """The last number taken away; NoPlace."""
        if not self.numbers:
            raise NoPlace("the row has no number to take away")
        return self.change_to(self.numbers[:-1])

    def lead_number(self, place, number):
        """The number at a place led to another one, perhaps the same; NoPlace."""
        return self.change_to(row_led(self.numbers, place, number))

    def change_to(self, row):
        """Another row in the place of this one, and by how many more stretches it has."""
        ahead = self.count_now()
        self.numbers = row
        return self.count_now() - ahead

    def row_now(self):
        """The row."""
        return self.numbers

    def count_now(self):
        """How many stretches have the told sum."""
        return count_with(self.numbers, self.total)

    def first_now(self):
        """The first stretch with the told sum, or None."""
        return first_with(self.numbers, self.total)

    def longest_now(self):
        """The first of the longest stretches with the told sum, or None."""
        return longest_with(self.numbers, self.total)
