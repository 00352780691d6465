"""Words: rows of known wires and of holes for unknown ones, in their one form."""

from turnwires.errors import NoKind, NoMost, NoName, NoPart, NoSize, TwoKinds, Unfilled, WrongKind, WrongSize
from turnwires.wires import moves_of, rings_in, rings_of, rings_text, wire_of, with_integers

KINDS = ("wire", "swaps", "mirror")


class Part:
    """A part of a word: the use of a hole, or, with the name "", a known wire.

    A use is the hole's way back if `back` is True, and has no moves. A known wire has no
    way back of its own, and its moves are those of the places that do not stay.
    """

    def __init__(self, name, back, moves):
        self.name = name
        self.back = back
        self.moves = moves

    def __eq__(self, other):
        return (isinstance(other, Part) and self.name == other.name
                and self.back == other.back and self.moves == other.moves)


class Word:
    """A row of parts in the one form, with the kinds of its holes."""

    def __init__(self, parts, kinds):
        self.parts = one_form(parts, kinds)
        names = [part.name for part in self.parts if part.name]
        self._kinds = {name: kinds[name] for name in sorted(set(names))}

    @staticmethod
    def hole(name, kind="wire", *, most=None):
        """Return a hole of this kind, for at most so many pairs if it is a bound for swaps."""
        if not is_name(name):
            raise NoName(name)
        if kind not in KINDS:
            raise NoKind(kind)
        if most is None:
            return Word([Part(name, False, {})], {name: kind})
        if most < 0 or kind != "swaps":
            raise NoMost(most)
        return Word([Part(name, False, {})], {name: f"swaps {most}"})

    @staticmethod
    def known(rings):
        """Return the known wire that has these rings at every size with their places."""
        return Word([known_part(moves_of(rings))], {})

    @staticmethod
    def same():
        """Return the word that leads all places to themselves."""
        return Word([], {})

    @staticmethod
    def read(text, kinds):
        """Return the word of a row of parts, in the one form or not."""
        texts = text.split(" ")
        for index, part in enumerate(texts):
            if part.removeprefix("~") not in kinds and rings_in(part) is None:
                raise NoPart(index)
        return Word([read_part(part) for part in texts], kinds)

    @property
    def holes(self):
        """The names of the holes, ascending."""
        return list(self._kinds)

    @property
    def kinds(self):
        """The kinds of the holes by their names, in the order of the names."""
        return dict(self._kinds)

    @property
    def named(self):
        """The places that known wires of the word move, ascending."""
        return sorted({place for part in self.parts for place in part.moves})

    def times(self, k):
        """Return this word k times one behind another, its way back for a k below 0."""
        word = self if k >= 0 else ~self
        return Word(word.parts * abs(k), self._kinds)

    def under(self, q):
        """Return first the way back of q, then this word, then q."""
        return ~q >> self >> q

    def filled(self, size, wires):
        """Return the wire of this size that the word is with these wires in its holes."""
        if not fits(size, [self]):
            raise NoSize(size)
        for name in self._kinds:
            if name not in wires:
                raise Unfilled(name)
            if wires[name].size != size:
                raise WrongSize(wires[name].size)
            if not is_of_kind(wires[name], self._kinds[name]):
                raise WrongKind(name)
        images = list(range(size))
        for part in self.parts:
            images = led_by(part, images, wires)
        return wire_of(images)

    def __rshift__(self, other):
        return Word(self.parts + other.parts, joined_kinds(self._kinds, other.kinds))

    def __invert__(self):
        return Word([way_back(part) for part in self.parts[::-1]], self._kinds)

    def __pow__(self, other):
        return self.times(other)

    def __eq__(self, other):
        return isinstance(other, Word) and self.parts == other.parts and self._kinds == other._kinds

    def __len__(self):
        return len([part for part in self.parts if part.name])

    def __str__(self):
        if not self.parts:
            return "()"
        return " ".join([part_text(part) for part in self.parts])


def one_form(parts, kinds):
    """Return the parts that are left when no rule of the one form can be used any more."""
    row = []
    for part in parts:
        if not part.name:
            moves = part.moves
            if row and not row[-1].name:
                moves = composed(row.pop().moves, moves)
            if moves:
                row.append(Part("", False, moves))
            continue
        turns = kinds[part.name] == "wire"
        back = part.back and turns
        if row and row[-1].name == part.name and not (turns and row[-1].back == back):
            row.pop()
        else:
            row.append(Part(part.name, back, {}))
    return row


def known_part(moves):
    """Return the known wire with these moves, of which some may lead a place to itself."""
    return Part("", False, {place: image for place, image in moves.items() if place != image})


def read_part(text):
    """Return the part that a text tells, a hole or rings."""
    rings = rings_in(text)
    if rings is None:
        return Part(text.removeprefix("~"), text.startswith("~"), {})
    return known_part(moves_of(with_integers(rings)))


def part_text(part):
    """Return the text of a part of the one form."""
    if not part.name:
        return rings_text(rings_of(part.moves))
    return f"~{part.name}" if part.back else part.name


def way_back(part):
    """Return the part that leads back what this one leads."""
    return Part(part.name, not part.back, {image: place for place, image in part.moves.items()})


def composed(first, then):
    """Return the moves of two known wires, one behind the other."""
    moves = {}
    for place in [*first, *then]:
        image = first.get(place, place)
        moves[place] = then.get(image, image)
    return {place: image for place, image in moves.items() if place != image}


def led_by(part, places, wires):
    """Return the places to which the part leads these ones, with these wires in the holes."""
    if not part.name:
        return [part.moves.get(place, place) for place in places]
    wire = ~wires[part.name] if part.back else wires[part.name]
    return [wire[place] for place in places]


def joined_kinds(kinds, more):
    """Return the kinds of both dicts together; no name has two kinds in them."""
    for name in sorted(kinds):
        if more.get(name, kinds[name]) != kinds[name]:
            raise TwoKinds(name)
    return {**kinds, **more}


def fits(size, words, numbers=()):
    """Tell if the size fits the words and the numbers."""
    if any([size <= place for place in [0, *numbers]]):
        return False
    if any([size <= place for word in words for place in word.named]):
        return False
    return size % 2 == 0 or not any(["mirror" in list(word.kinds.values()) for word in words])


def least_size(words, numbers=()):
    """Return the least size that fits the words and the numbers."""
    size = max([0, *numbers, *[place for word in words for place in word.named]]) + 1
    return size if fits(size, words, numbers) else size + 1


def is_name(text):
    """Tell if the text has 1 to 8 letters from a to z."""
    return 1 <= len(text) <= 8 and all(["a" <= letter <= "z" for letter in text])


def is_of_kind(wire, kind):
    """Tell if the wire can fill a hole of this kind, told as in the kinds of a word."""
    if kind == "wire":
        return True
    if kind == "mirror":
        return wire.is_mirror()
    most = bound_of(kind)
    return wire.is_swaps() and (most is None or len(wire.rings()) <= most)


def bound_of(kind):
    """Return how many pairs swaps of this kind have at most, or None if there is no bound."""
    return None if kind == "swaps" else int(kind.removeprefix("swaps "))
