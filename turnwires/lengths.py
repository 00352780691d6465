"""Lengths: how long the rings of a word can be, with any filling of any size."""

from math import lcm

from turnwires.words import Word, bound_of, least_size
from turnwires.ways import Walk, by_size, least_unseen


class Round(Walk):
    """A walk that goes through the word again and again, until it comes back to its start.

    Here the parts behind a trail are those of all rounds together.
    """

    def turn_before(self, trail):
        """Return the turn of the next part, "" for a known wire."""
        return self.turns[trail.behind % len(self.turns)]

    def rounds(self, trail):
        """Return how many rounds the trail has behind it, if it is at the end of one, else 0."""
        return 0 if trail.behind % len(self.turns) else trail.behind // len(self.turns)

    def is_done(self, trail):
        """Tell if the trail is back at the start, at the end of a round."""
        return self.rounds(trail) > 0 and trail.place == self.start

    def led_on(self, trail):
        """Lead the trail on as long as there is nothing to choose, and return it."""
        while not self.is_done(trail):
            turn = self.turn_before(trail)
            if turn and trail.place not in trail.leads[turn]:
                break
            moves = trail.leads[turn] if turn else self.word.parts[trail.behind % len(self.turns)].moves
            trail.place = moves.get(trail.place, trail.place)
            trail.behind = trail.behind + 1
        return trail

    def choices(self, trail):
        """Return the places to which the next hole can lead the trail, a new number last."""
        while len(self.seen) < trail.more + 2:
            self.see_one_more()
        return super().choices(trail)


def lengths(word):
    """Return the lengths of all rings, each with the least size that has one, or None.

    There is None if there are infinitely many.
    """
    if not has_bound(word):
        return None
    if not word.parts:
        return [(1, 1)]
    sizes = {}
    for start in [*word.named, least_unseen(word.named)]:
        walk = Round(word, start)
        met = {}
        for trail in by_size(walk):
            length = walk.rounds(trail)
            if length not in met:
                met[length] = True
                size = least_size([word], walk.seen[trail.more])
                sizes[length] = min(size, sizes.get(length, size))
    return sorted(list(sizes.items()))


def order(word):
    """Return the least k >= 1 for which the word, k times, leads all places to themselves, or None."""
    pairs = lengths(word)
    if pairs is None:
        return None
    least = 1
    for length, _ in pairs:
        least = lcm(least, length)
    return least


def has_bound(word):
    """Tell if the rings of the word are not longer than some number."""
    kinds = word.kinds
    # Known wires, and swaps with a bound, move no more than so many places, at any size.
    rest = Word([part for part in word.parts if part.name and is_boundless(kinds[part.name])], kinds)
    if not rest.parts:
        return True
    at = len(rest.parts) // 2
    middle, behind = Word([rest.parts[at]], kinds), Word(rest.parts[at + 1:], kinds)
    return kinds[middle.holes[0]] != "wire" and rest == middle.under(behind)


def is_boundless(kind):
    """Tell if wires of this kind move any number of places."""
    return kind in ("wire", "mirror") or bound_of(kind) is None
