"""Walkers, which go from place to place of a floor, and trackers, which can undo what they did."""

from cuspfloor.errors import NothingToUndo
from cuspfloor.floors import check_floor, check_place, led_by_powers, power_tables
from cuspfloor.matrices import IDENTITY, check_number, inverse, product
from cuspfloor.words import check_word, expansion, matrix_of_word


class Walker:
    """Something that stands at a place of a floor and goes by matrices."""

    def __init__(self, floor, *, place=0):
        check_floor(floor)
        check_place(floor, place)
        self._floor = floor
        self._tables = power_tables(floor)
        self._place = place
        self._total = IDENTITY

    @property
    def floor(self):
        """The floor that was passed."""
        return self._floor

    @property
    def total(self):
        """The product of all matrices by which the walker has gone."""
        return self._total

    @property
    def place(self):
        """The place at which the walker stands."""
        return self._place

    @place.setter
    def place(self, value):
        check_place(self._floor, value)
        self._place = value

    def move_to(self, place):
        """Put the walker at a place, without going there."""
        self.place = place

    def go(self, *matrices):
        """Go by these matrices, in order, and return the place afterwards."""
        return self._go_by(matrices)

    def letters(self, word):
        """Go by the letters of a word, each when its place is requested, and yield the places."""
        check_word(word)
        for letter in word:
            yield self._go_by((matrix_of_word(letter),))

    def rehearse(self, *matrices):
        """Return the tuple of the places to which these matrices would lead, one after the other."""
        places = []
        place = self._place
        for matrix in matrices:
            place = self._led_from(place, matrix)
            places.append(place)
        return tuple(places)

    def _go_by(self, matrices):
        """Go by a tuple of matrices and return the place afterwards."""
        # A product leads as its factors do, and it refuses a wrong matrix before anything has changed.
        way = product(*matrices)
        self._place = self._led_from(self._place, way)
        self._total = product(self._total, way)
        return self._place

    def _led_from(self, place, matrix):
        """Return the place to which a matrix leads a place."""
        return led_by_powers(self._tables, place, expansion(matrix))


class Tracker(Walker):
    """A walker that remembers the calls by which it has gone, and can undo them."""

    def __init__(self, floor, *, place=0):
        super().__init__(floor, place=place)
        self._calls = ()

    @property
    def history(self):
        """The tuple of the calls that have not been undone, each as the tuple of its matrices."""
        return self._calls

    def go(self, *matrices):
        """Go by these matrices, in order, remember them as one call, and return the place afterwards."""
        place = self._go_by(matrices)
        self._calls = self._calls + (matrices,)
        return place

    def undo(self, *, count=1):
        """Undo the latest calls, the latest one first, by going by the inverses."""
        check_number(count, 0, None)
        kept = len(self._calls) - count
        if kept < 0:
            raise NothingToUndo("the history has fewer calls")
        done = [matrix for call in self._calls[kept:] for matrix in call]
        self._go_by(tuple([inverse(matrix) for matrix in done[::-1]]))
        self._calls = self._calls[:kept]
