"""The passive queue: numbers of clauses that wait, given back by weight and by age in turns."""

from elenchus.ascending import place_of
from elenchus.errors import DuplicateNumber, EmptyQueue, InvalidRatio
from elenchus.integers import is_integer


class Passive:
    """Numbers with weights; of each round, some numbers are the lightest and some the lowest ones."""

    def __init__(self, *, by_weight=4, by_age=1):
        check_ratio(by_weight, by_age)
        self._by_weight = by_weight
        self._round = by_weight + by_age
        self._turn = 0
        self._weights = {}
        # Both lists are ascending: the numbers, and the pairs of a weight and its number.
        self._numbers = []
        self._weighed = []

    def add(self, number, weight):
        """Put a number into the queue."""
        if number in self._weights:
            raise DuplicateNumber(number)
        self._weights[number] = weight
        self._numbers.insert(place_of(self._numbers, number), number)
        self._weighed.insert(place_of(self._weighed, (weight, number)), (weight, number))

    def take(self):
        """Return the next number and remove it."""
        if not self._numbers:
            raise EmptyQueue()
        number = self._weighed[0][1] if self._turn < self._by_weight else self._numbers[0]
        self._turn = (self._turn + 1) % self._round
        pair = (self._weights[number], number)
        del self._weights[number]
        del self._numbers[place_of(self._numbers, number)]
        del self._weighed[place_of(self._weighed, pair)]
        return number

    def __len__(self):
        return len(self._numbers)

    def __contains__(self, number):
        return number in self._weights

    def __iter__(self):
        return iter(self._numbers)


def check_ratio(by_weight, by_age):
    """Make sure that the two numbers describe a round in which a number is taken."""
    for count in (by_weight, by_age):
        if not is_integer(count) or count < 0:
            raise InvalidRatio("one of the numbers is not an integer of at least 0")
    if by_weight == 0 and by_age == 0:
        raise InvalidRatio("both numbers are 0")
