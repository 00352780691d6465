"""Books: sightings of where words, whose wires are not known, have led places."""

from turnwires.errors import NoPlace, NoSighting, NoSize
from turnwires.keeping import Asking, Counting
from turnwires.listing import Listing
from turnwires.shares import reach_of, share_of
from turnwires.strands import Web
from turnwires.ways import least_unseen
from turnwires.wires import wire_of
from turnwires.words import fits, joined_kinds, least_size


class Book:
    """A row of sightings: each tells that a word has led a place, its start, to another, its end."""

    def __init__(self):
        self._sightings = []

    def saw(self, word, start, end):
        """Write down that the word has led the start to the end."""
        for place in [start, end]:
            if place < 0:
                raise NoPlace(place)
        joined_kinds(word.kinds, kinds_of(self._words()))
        self._sightings.append((word, start, end))

    def forget(self, k):
        """Take out the sighting with this number."""
        if k < 0 or k >= len(self._sightings):
            raise NoSighting(k)
        del self._sightings[k]

    def least(self):
        """Return the least size with a filling that keeps the book, or None."""
        words, ends = self._words(), self._ends()
        if not can_hold(self._sightings):
            return None
        size = least_size(words, numbers_in(ends))
        while not Asking(Web(words), size).total(ends):
            size = least_size(words, [*numbers_in(ends), size])
        return size

    def many(self, size):
        """Return the number of the fillings of this size that keep the book."""
        words, ends = self._words(), self._ends()
        check_size(size, words, numbers_in(ends))
        web = Web(words)
        # To ask takes far less time than to count, and settles it if the sightings contradict one another.
        return Counting(web, size).total(ends) if Asking(web, size).total(ends) else 0

    def fits(self, size):
        """Return all fillings of this size that keep the book, in their order."""
        words, ends = self._words(), self._ends()
        check_size(size, words, numbers_in(ends))
        names = sorted(kinds_of(words))
        found = Listing(Web(words), size).total(ends)
        rows = sorted([[filling[name] for name in names] for filling in found])
        told = sorted(set([images for row in rows for images in row]))
        wires = {images: wire_of(images) for images in told}
        return [{name: wires[images] for name, images in zip(names, row)} for row in rows]

    def share(self):
        """Return the share of the fillings that keep the book."""
        return share_of(self._words(), self._ends())

    def reach(self):
        """Return the size from which on the share is told by its quotient."""
        return reach_of(self._words(), numbers_in(self._ends()))

    def sure(self, word, start, size=None):
        """Return the place to which the word leads the start whenever the book is kept, or None."""
        if start < 0:
            raise NoPlace(start)
        joined_kinds(word.kinds, kinds_of(self._words()))
        words, ends = [*self._words(), word], self._ends()
        named = sorted(set([*[place for known in words for place in known.named], *numbers_in(ends), start]))
        if size is not None:
            check_size(size, words, named)
        # All places that nobody named are alike: one of them stands for all.
        new = least_unseen(named)
        places = named if size == len(named) else [new, *named]
        asking = Asking(Web(words), size)
        found = None
        for end in places:
            if asking.total([*ends, (start, end)]):
                if found is not None or (end == new and size != len(named) + 1):
                    return None
                found = end
        return found

    def core(self):
        """Return the numbers of the fewest sightings that cannot hold together, or None."""
        if can_hold(self._sightings):
            return None
        for many in range(1, len(self._sightings)):
            for numbers in rows_of_numbers(many, len(self._sightings)):
                if not can_hold([self._sightings[k] for k in numbers]):
                    return numbers
        return list(range(len(self._sightings)))

    def guessed(self, word, start, end, work):
        """Return what work returns for the book with one sighting more, and take back all changes."""
        before = list(self._sightings)
        self.saw(word, start, end)
        try:
            return work(self)
        finally:
            self._sightings = before

    def _words(self):
        return [word for word, _, _ in self._sightings]

    def _ends(self):
        return [(start, end) for _, start, end in self._sightings]

    def __len__(self):
        return len(self._sightings)

    def __getitem__(self, at):
        if at < 0 or at >= len(self._sightings):
            raise NoSighting(at)
        return self._sightings[at]

    def __iter__(self):
        raise TypeError("a book is not iterated over: take its sightings by their numbers")


def can_hold(sightings):
    """Tell if the sightings hold with some filling of some size."""
    web = Web([word for word, _, _ in sightings])
    return Asking(web).total([(start, end) for _, start, end in sightings])


def check_size(size, words, numbers):
    """Raise an error if the size does not fit the words and the numbers."""
    if not fits(size, words, numbers):
        raise NoSize(size)


def kinds_of(words):
    """Return the kinds of all holes of the words."""
    kinds = {}
    for word in words:
        kinds.update(word.kinds)
    return kinds


def numbers_in(ends):
    """Return the numbers in pairs of a start and an end."""
    return [number for pair in ends for number in pair]


def rows_of_numbers(length, many):
    """Return all ascending rows of this length of numbers below many, in their order."""
    rows = [[]]
    for _ in range(length):
        rows = [[*row, k] for row in rows for k in range(row[-1] + 1 if row else 0, many)]
    return rows
