"""Keeping: sums over all fillings with which all sightings of a web hold.

The fillings are gone through choice by choice: where a hole leads the place at an end of a
strand is fixed in each way that it can be, and what is left is summed up behind that.
"""

from math import comb, factorial

from turnwires.strands import groups_of
from turnwires.ways import pairs_in
from turnwires.words import bound_of


class Keeping:
    """A sum over the fillings with which the sightings of a web hold.

    The classes below tell what is summed: what stands for one filling and for none, which alone
    is not true, how the sums over different fillings are put together (`either`), how those
    over different holes (`both`), what stands for the number of places that are none of so many
    (`others`), and the sum over all wires of a hole for which something is fixed (`rest`).
    """

    def __init__(self, web, one, none):
        self.web = web
        self.one = one
        self.none = none
        self.groups = {}
        self.sums = {}
        self.newest = 0

    def total(self, ends):
        """Return the sum for sightings with these pairs of a start and an end."""
        strands = self.web.strands_of(ends)
        if strands is None:
            return self.none
        return self.worth(strands, {turn: {} for turn in self.web.opposites})

    def worth(self, strands, leads):
        """Return the sum over all wires, of the holes of the leads, with which the strands hold."""
        held = self.web.settled(strands, leads)
        if held is None:
            return self.none
        strands, leads = held
        parts = []
        for group in self.groups_in(strands):
            part = [strands[index] for index in group.indexes]
            parts.append((group, part, {turn: leads[turn] for turn in group.turns}))
            leads = {turn: leads[turn] for turn in leads if turn not in group.rooms}
        if self.is_hopeless(parts):
            return self.none
        total = self.one
        for group, part, known in parts:
            total = self.both(total, self.worth_of(group, part, known))
            if not total:
                return total
        for turn in leads:
            if not turn.startswith("~"):
                total = self.both(total, self.rest(turn, leads[turn]))
        return total

    def is_hopeless(self, parts):
        """Tell if it is known that one of the parts, each a group, its strands and its leads, cannot hold."""
        return False

    def groups_in(self, strands):
        """Return the groups of the strands."""
        spans = tuple([strand[:3] for strand in strands])
        if spans not in self.groups:
            self.groups[spans] = groups_of(self.web, spans)
        return self.groups[spans]

    def worth_of(self, group, strands, leads):
        """Return the sum over all wires of the holes of a group with which its strands hold."""
        mark = group.mark(strands, leads)
        if mark not in self.sums:
            self.sums[mark] = self.summed(group, strands, leads)
        return self.sums[mark]

    def summed(self, group, strands, leads):
        """Return the same, summed over the choices there are at one end of one strand."""
        end, images, many = self.narrowest(group, strands, leads)
        _, _, turn, place = end
        total = self.none
        # All places that do not stand in the room are alike: one new one stands for them.
        self.newest -= 1
        others = self.others(many)
        if others and self.web.free_images(turn, place, [self.newest], leads):
            total = self.both(others, self.sum_behind(end, self.newest, strands, leads))
        for image in images:
            if self.is_enough(total):
                break
            total = self.either(total, self.sum_behind(end, image, strands, leads))
        return total

    def narrowest(self, group, strands, leads):
        """Return an end with few choices, these, and how many places stand in the room.

        An end is told by the index of its strand, if it is the left one, the turn to fix and
        the place that it leads.
        """
        places = group.places_by_room(strands, leads)
        best = None
        least = 0
        for index, (number, first, last, left, right) in enumerate(strands):
            turns = self.web.rows[number].turns
            back = self.web.opposites[turns[last - 1]]
            for end in [(index, True, turns[first], left), (index, False, back, right)]:
                room = group.rooms[self.web.opposites[end[2]]]
                images = self.web.free_images(end[2], end[3], places[room], leads)
                # Short strands come first if the choices are about as many: they are done soon.
                cost = 2 * len(images) + last - first
                if best is None or cost < least:
                    best = end, images, len(places[room])
                    least = cost
        return best

    def sum_behind(self, end, image, strands, leads):
        """Return the sum over all wires with which the turn at the end leads to the image."""
        index, is_left, turn, place = end
        number, first, last, left, right = strands[index]
        row = self.web.rows[number]
        if is_left:
            strand = (number, first + 1, last, row.joints[first + 1].get(image, image), right)
        else:
            strand = (number, first, last - 1, left, row.backs[last - 1].get(image, image))
        strands = [*strands[:index], strand, *strands[index + 1:]]
        return self.worth(strands, self.web.with_fixed(leads, turn, place, image))

    def is_enough(self, total):
        """Tell if the sum is the same, whatever there is to add."""
        return False


class Asking(Keeping):
    """Whether there is a filling, True or False: of one size, or, without one, of any size."""

    def __init__(self, web, size=None):
        Keeping.__init__(self, web, True, False)
        self.size = size

    def either(self, one, other):
        """Return the sum over two kinds of fillings."""
        return one or other

    def both(self, one, other):
        """Return the sum over the fillings of two kinds of holes."""
        return one and other

    def others(self, many):
        """Return what stands for the number of places that are none of so many."""
        return self.size is None or self.size > many

    def rest(self, turn, leads):
        """Return the sum over all wires of a hole with which the leads hold."""
        return True

    def is_enough(self, total):
        """Tell if the sum is the same, whatever there is to add."""
        return total


class Counting(Keeping):
    """The number of the fillings of one size."""

    def __init__(self, web, size):
        Keeping.__init__(self, web, 1, 0)
        self.size = size

    def either(self, one, other):
        """Return the sum over two kinds of fillings."""
        return one + other

    def both(self, one, other):
        """Return the sum over the fillings of two kinds of holes."""
        return one * other

    def others(self, many):
        """Return what stands for the number of places that are none of so many."""
        return self.size - many

    def rest(self, turn, leads):
        """Return the sum over all wires of a hole with which the leads hold."""
        kind = self.web.sorts[turn]
        left = self.size - len(leads)
        if kind == "wire":
            return factorial(left)
        if kind == "mirror":
            return pairings(left, left // 2)
        most = left // 2
        if bound_of(kind) is not None:
            most = min(most, bound_of(kind) - pairs_in(leads))
        return sum([pairings(left, pairs) for pairs in range(most + 1)])


def pairings(many, pairs):
    """Return in how many ways so many pairs can be made of so many places."""
    count = 1
    for done in range(pairs):
        count = count * comb(many - 2 * done, 2)
    return count // factorial(pairs)
