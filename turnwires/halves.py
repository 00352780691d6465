"""Halves: a wire as two swaps, or two mirrors, one behind the other."""

from turnwires.errors import NoHalves, NoKind
from turnwires.wires import wire_of


def halves(wire, kind):
    """Return all pairs (x, y) of wires of this kind with `x >> y == wire`, in their order."""
    rows = [{}]
    for rings in groups_of_rings(wire, kind):
        rows = [{**moves, **more} for moves in rows for more in turns_of(rings, kind)]
    rows = sorted([[moves[place] for place in range(wire.size)] for moves in rows])
    return [(wire_of(images), wire_of([wire[image] for image in images])) for images in rows]


def many_halves(wire, kind):
    """Return the number of the pairs that `halves` returns."""
    number = 1
    for rings in groups_of_rings(wire, kind):
        number = number * many_turns(len(rings), len(rings[0]), kind)
    return number


def groups_of_rings(wire, kind):
    """Return the rings of each length, places that stay among them, if there are halves."""
    if kind not in ("swaps", "mirror"):
        raise NoKind(kind)
    moving = [place for ring in wire.rings() for place in ring]
    staying = [[place] for place in range(wire.size) if place not in moving]
    groups = {}
    for ring in [*staying, *wire.rings()]:
        groups.setdefault(len(ring), []).append(ring)
    for length in sorted(groups):
        if kind == "mirror" and len(groups[length]) % 2:
            raise NoHalves(length)
    return list(groups.values())


def turns_of(rings, kind):
    """Return the moves of all x on these rings, which have the same length.

    Then y is the way back of x, then the wire. So that it is swaps, too, the wire from x on is
    the wire back to x: x turns round each ring, onto itself or onto another one, which x turns
    back. In a mirror no ring is turned onto itself: then a place would stay by x or by y.
    """
    if not rings:
        return [{}]
    ring, others = rings[0], rings[1:]
    found = []
    if kind == "swaps":
        rests = turns_of(others, kind)
        found = [{**moves, **rest} for moves in turns_onto(ring, ring) for rest in rests]
    for at, other in enumerate(others):
        rests = turns_of(others[:at] + others[at + 1:], kind)
        found.extend([{**moves, **rest} for moves in turns_onto(ring, other) for rest in rests])
    return found


def turns_onto(ring, other):
    """Return the moves that turn a ring round, onto the other one, and that one back."""
    found = []
    for shift in range(len(ring)):
        images = other[shift::-1] + other[:shift:-1]
        moves = dict(zip(ring, images))
        moves.update(dict(zip(images, ring)))
        found.append(moves)
    return found


def many_turns(many, length, kind):
    """Return the number of the moves on so many rings of this length."""
    before, number = 0, 1
    for others in range(many):
        # One more ring is turned onto itself, or onto one of the others.
        alone = length * number if kind == "swaps" else 0
        before, number = number, alone + others * length * before
    return number
