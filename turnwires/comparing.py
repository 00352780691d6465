"""Comparing: whether two words are alike, where they part, and what can come of a place."""

from turnwires.errors import NoSize
from turnwires.wires import wire_of
from turnwires.words import fits, joined_kinds, least_size
from turnwires.ways import Walk, by_size, least_unseen


class Parting:
    """A place that two words, filled with wires of one size, lead to different places."""

    def __init__(self, size, place, wires):
        self.size = size
        self.place = place
        self.wires = wires


def alike(p, q):
    """Tell if both words lead all places alike, with every filling of every size."""
    return parting(p, q) is None


def alike_at(p, q, size):
    """Tell if both words lead all places alike, with every filling of this size."""
    found = parting(p, q)
    if not fits(size, [p, q]):
        raise NoSize(size)
    return found is None or found.size > size


def parting(p, q):
    """Return where the words part, at the least size at which they do, or None."""
    # They part at a place just if first p, then the way back of q leads it elsewhere. All
    # places that this word does not name are alike to it: one of them stands for all.
    word = p >> ~q
    kinds = joined_kinds(p.kinds, q.kinds)
    best = None
    for place in [*word.named, least_unseen(word.named)]:
        walk = Walk(word, place)
        trail = trail_elsewhere(walk)
        if trail is None:
            continue
        size = least_size([p, q], walk.seen[trail.more])
        if best is None or size < best.size:
            best = Parting(size, place, filling_with(walk.fixed_by(trail), kinds, size))
    return best


def comes(word, start):
    """Return what can come of the start: pairs of an end, None for any other, and its least size."""
    walk = Walk(word, start)
    sizes = {}
    for trail in by_size(walk):
        end = trail.place if trail.place in walk.seen[0] else None
        if end not in sizes:
            sizes[end] = least_size([word], walk.seen[trail.more])
        if len(sizes) > len(walk.seen[0]):
            break
    return [(end, sizes[end]) for end in [*walk.seen[0], None] if end in sizes]


def trail_elsewhere(walk):
    """Return a trail that does not come back to its start, with the fewest new numbers, or None."""
    for trail in by_size(walk):
        if trail.place != walk.start:
            return trail
    return None


def filling_with(fixed, kinds, size):
    """Return a filling of this size in which all that is fixed holds."""
    return {name: wire_with(fixed.get(name, []), kinds[name], size) for name in sorted(kinds)}


def wire_with(pairs, kind, size):
    """Return a wire of this kind and size that leads each first place of the pairs to the second."""
    leads = dict(pairs)
    if kind != "wire":
        leads.update({image: place for place, image in pairs})
    ends = list(leads.values())
    left = [place for place in range(size) if place not in leads]
    free = [place for place in range(size) if place not in ends]
    if kind == "mirror":
        free = [place for at in range(0, len(left), 2) for place in left[at:at + 2][::-1]]
    leads.update(dict(zip(left, free)))
    return wire_of([leads[place] for place in range(size)])
