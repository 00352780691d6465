"""Wires of one size, and the rings that they and the known wires of words are made of.

Here a ring is a list of places, and moves are a dict from places to the places to which
they are led. Moves serve wires without a size as well: what is not in them stays.
"""

from math import lcm

from turnwires.errors import NoPlace, NoRing, NoSize, NoText, WrongSize

# No list has 10 ** 18 items, so a longer size in a text is the size of no wire. Long
# numbers are not even turned into integers: Python refuses those of some thousand digits.
MOST_DIGITS = 18


class Wire:
    """A wire of a size n: it leads each of the places 0 to n - 1 to one of them, one to one."""

    def __init__(self, size, rings):
        if size < 1:
            raise NoSize(size)
        moves = moves_of(rings, size)
        self.size = size
        self._images = [moves.get(place, place) for place in range(size)]

    @staticmethod
    def read(text):
        """Return the wire whose `str` is the text."""
        digits, _, rest = text.partition(" ")
        rings = rings_in(rest)
        if rings is None or not is_number(digits) or len(digits) > MOST_DIGITS:
            raise NoText(text)
        if any([len(place) > len(digits) for ring in rings for place in ring]):
            raise NoText(text)
        rings = with_integers(rings)
        if rings_text(rings_of(moves_of(rings))) != rest:
            raise NoText(text)
        try:
            return Wire(int(digits), rings)
        except (NoSize, NoRing):
            raise NoText(text) from None

    def images(self):
        """Return the list of the images of the places 0, 1, .. in this order."""
        return list(self._images)

    def rings(self):
        """Return the rings of two or more places, each from its least place on, ascending."""
        return rings_of(dict(enumerate(self._images)))

    def times(self, k):
        """Return this wire k times one behind another, its way back for a k below 0."""
        images = list(range(self.size))
        for ring in self.rings():
            for at, place in enumerate(ring):
                images[place] = ring[(at + k) % len(ring)]
        return wire_of(images)

    def order(self):
        """Return the least k >= 1 for which `times(k)` leads all places to themselves."""
        least = 1
        for ring in self.rings():
            least = lcm(least, len(ring))
        return least

    def is_swaps(self):
        """Tell if the wire, twice, leads all places to themselves."""
        return all([self._images[image] == place for place, image in enumerate(self._images)])

    def is_mirror(self):
        """Tell if the wire is swaps and no place stays."""
        return self.is_swaps() and all([image != place for place, image in enumerate(self._images)])

    def __getitem__(self, at):
        if at < 0 or at >= self.size:
            raise NoPlace(at)
        return self._images[at]

    def __iter__(self):
        raise TypeError("a wire is not iterated over: take its images()")

    def __rshift__(self, other):
        if other.size != self.size:
            raise WrongSize(other.size)
        return wire_of([other[image] for image in self._images])

    def __invert__(self):
        return self.times(-1)

    def __pow__(self, other):
        return self.times(other)

    def __eq__(self, other):
        return isinstance(other, Wire) and self._images == other._images

    def __str__(self):
        return f"{self.size} {rings_text(self.rings())}"


def wire_of(images):
    """Return the wire that leads the places 0, 1, .. to these images."""
    return Wire(len(images), rings_of(dict(enumerate(images))))


def moves_of(rings, size=None):
    """Return the moves of the rings; without a size, each number from 0 on is a place."""
    moves = {}
    for index, ring in enumerate(rings):
        if not ring:
            raise NoRing(index)
        for place, image in zip(ring, ring[1:] + ring[:1]):
            if place < 0 or place in moves or (size is not None and place >= size):
                raise NoRing(index)
            moves[place] = image
    return moves


def rings_of(moves):
    """Return the rings of two or more places of the moves, ordered as `Wire.rings` tells."""
    rings = []
    seen = set()
    for first in sorted(moves):
        if first in seen or moves[first] == first:
            continue
        ring = [first]
        place = moves[first]
        while place != first:
            ring.append(place)
            seen.add(place)
            place = moves[place]
        rings.append(ring)
    return rings


def rings_text(rings):
    """Return the text of rings: `(0,1)(2,3,4)`, and `()` if there are none."""
    return "".join(["(" + ",".join([str(place) for place in ring]) + ")" for ring in rings]) or "()"


def rings_in(text):
    """Return the rings that a text tells, their places as texts, or None if it tells none.

    The rings may be in any order and have one place each; no place stands in them twice.
    """
    if text == "()":
        return []
    if not (text.startswith("(") and text.endswith(")")):
        return None
    rings = [ring.split(",") for ring in text[1:-1].split(")(")]
    places = [place for ring in rings for place in ring]
    if len(set(places)) < len(places) or not all([is_number(place) for place in places]):
        return None
    return rings


def with_integers(rings):
    """Return the rings with integers in the place of their texts."""
    return [[int(place) for place in ring] for ring in rings]


def is_number(text):
    """Tell if the text is an integer from 0 on in decimal digits, without a leading zero."""
    return text.isascii() and text.isdigit() and (text == "0" or not text.startswith("0"))
