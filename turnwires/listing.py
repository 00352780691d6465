"""Listing: all fillings of one size with which all sightings of a web hold."""

from turnwires.keeping import Asking, Keeping
from turnwires.ways import pairs_in
from turnwires.words import bound_of


class Listing(Keeping):
    """The list of the fillings: dicts from names to the images of the places 0, 1, .., as tuples."""

    def __init__(self, web, size):
        Keeping.__init__(self, web, [{}], [])
        self.size = size
        self.asking = Asking(web, size)

    def is_hopeless(self, parts):
        """Tell if it is known that one of the parts, each a group, its strands and its leads, cannot hold."""
        # All parts are asked before one is listed: what one part alone allows can be far more
        # than there is memory for, although another part allows nothing.
        return not all([self.asking.worth_of(group, strands, leads) for group, strands, leads in parts])

    def worth_of(self, group, strands, leads):
        """Return the sum over all wires of the holes of a group with which its strands hold."""
        # Here places that nobody named are told apart, so that each one has its own number.
        maps = [tuple(sorted(list(leads[turn].items()))) for turn in group.turns]
        mark = tuple(strands), tuple(maps)
        if mark not in self.sums:
            self.sums[mark] = self.summed(group, strands, leads)
        return self.sums[mark]

    def summed(self, group, strands, leads):
        """Return the same, summed over the choices there are at one end of one strand."""
        end, _, _ = self.narrowest(group, strands, leads)
        _, _, turn, place = end
        total = []
        for image in self.web.free_images(turn, place, list(range(self.size)), leads):
            total = total + self.sum_behind(end, image, strands, leads)
        return total

    def both(self, one, other):
        """Return the sum over the fillings of two kinds of holes."""
        return [{**left, **right} for left in one for right in other]

    def rest(self, turn, leads):
        """Return the sum over all wires of a hole with which the leads hold."""
        return [{turn: images} for images in images_with(leads, self.web.sorts[turn], self.size)]


def images_with(leads, kind, size):
    """Return the images of the places 0, 1, .. by each wire of the kind with which the leads hold."""
    left = [place for place in range(size) if place not in leads]
    if kind == "wire":
        taken = list(leads.values())
        rows = orders_of([image for image in range(size) if image not in taken])
        moves = [dict(zip(left, row)) for row in rows]
    elif kind == "mirror":
        moves = [moves_of_pairs(pairs) for pairs in whole_pairings(left)]
    else:
        most = len(left) if bound_of(kind) is None else bound_of(kind) - pairs_in(leads)
        moves = [moves_of_pairs(pairs) for pairs in pairings_of(left, most)]
    return [tuple([more.get(place, leads.get(place, place)) for place in range(size)]) for more in moves]


def orders_of(places):
    """Return the places in all orders."""
    rows = [[]]
    for _ in places:
        rows = [[*row, place] for row in rows for place in places if place not in row]
    return rows


def pairings_of(places, most):
    """Return all rows of at most so many pairs of the places, each place in one pair at most."""
    found = [[]]
    rows = [([], places)]
    for _ in range(min(most, len(places) // 2)):
        rows = [
            ([*pairs, (left[at], left[by])], left[at + 1:by] + left[by + 1:])
            for pairs, left in rows for at in range(len(left)) for by in range(at + 1, len(left))
        ]
        found.extend([pairs for pairs, _ in rows])
    return found


def whole_pairings(places):
    """Return all rows of pairs of the places, each place in one pair."""
    rows = [([], places)]
    for _ in range(len(places) // 2):
        rows = [
            ([*pairs, (left[0], left[by])], left[1:by] + left[by + 1:])
            for pairs, left in rows for by in range(1, len(left))
        ]
    return [pairs for pairs, _ in rows]


def moves_of_pairs(pairs):
    """Return the moves of the wire that lets the places of each pair change places."""
    moves = dict(pairs)
    moves.update({image: place for place, image in pairs})
    return moves
