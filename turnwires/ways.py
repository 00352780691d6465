"""Ways: a place is followed through a word while the wires of its holes are unknown."""

from turnwires.words import bound_of, least_size, part_text, way_back


class Way:
    """A way from a place through a word, and what it fixes of the wires of the holes."""

    def __init__(self, start, end, size, fixed):
        self.start = start
        self.end = end
        self.size = size
        self.fixed = fixed


class Trail:
    """How far a way has come: how many parts it has behind it, where it stands, what it fixes.

    `more` tells how many new numbers are seen. `leads` has a dict for each turn, which is a
    hole or its way back as a text: where it leads the places for which that is fixed. Holes
    for swaps and mirrors have one turn each, and their pairs stand in its dict both ways.
    """

    def __init__(self, behind, place, more, leads):
        self.behind = behind
        self.place = place
        self.more = more
        self.leads = leads


class Walk:
    """A word and a start: what all trails from there through the word have in common.

    The new numbers come in the same order in each trail: `seen[k]` are the seen places,
    ascending, when k new numbers are seen, and `news[k]` is the next one.
    """

    def __init__(self, word, start):
        self.word = word
        self.start = start
        self.turns = [part_text(part) if part.name else "" for part in word.parts]
        self.opposites = opposites_of(word)
        self.seen = [sorted(set([*word.named, start]))]
        self.news = [least_unseen(self.seen[0])]
        for _ in range(len(word)):
            self.see_one_more()

    def see_one_more(self):
        """Get ready for trails that see one new number more."""
        self.seen.append(sorted([*self.seen[-1], self.news[-1]]))
        self.news.append(least_unseen(self.seen[-1]))

    def begun(self):
        """Return the trail that stands at the start, before its first choice."""
        return self.led_on(Trail(0, self.start, 0, {turn: {} for turn in self.opposites}))

    def is_done(self, trail):
        """Tell if the trail has all parts behind it."""
        return trail.behind == len(self.turns)

    def turn_before(self, trail):
        """Return the turn of the next part, "" for a known wire."""
        return self.turns[trail.behind]

    def led_on(self, trail):
        """Lead the trail on as long as there is nothing to choose, and return it."""
        for step in range(trail.behind, len(self.turns)):
            turn = self.turns[step]
            if turn and trail.place not in trail.leads[turn]:
                break
            moves = trail.leads[turn] if turn else self.word.parts[step].moves
            trail.place = moves.get(trail.place, trail.place)
            trail.behind = step + 1
        return trail

    def branches(self, trail):
        """Return the trails of the choices of a trail that is not done, in their order."""
        return [self.led_to(trail, place) for place in self.choices(trail)]

    def choices(self, trail):
        """Return the places to which the next hole can lead the trail, a new number last."""
        turn = self.turn_before(trail)
        taken = trail.leads[self.opposites[turn]]
        places = [*self.seen[trail.more], self.news[trail.more]]
        free = [place for place in places if place not in taken]
        kind = self.word.kinds[turn.removeprefix("~")]
        if kind == "mirror":
            return [place for place in free if place != trail.place]
        if kind != "wire" and is_full(taken, kind):
            return [trail.place]
        return free

    def led_to(self, trail, place):
        """Return the trail that goes on when the next hole leads this one to the place."""
        turn = self.turn_before(trail)
        opposite = self.opposites[turn]
        leads = dict(trail.leads)
        leads[turn] = {**leads[turn], trail.place: place}
        leads[opposite] = {**leads[opposite], place: trail.place}
        more = trail.more + 1 if place == self.news[trail.more] else trail.more
        return self.led_on(Trail(trail.behind + 1, place, more, leads))

    def fixed_by(self, trail):
        """Return the pairs of places that the trail has fixed, by the names of the holes."""
        return {name: pairs_of(trail.leads[name], kind) for name, kind in self.word.kinds.items()}


def ways(word, start):
    """Go through all ways from the start, in the order of their branches."""
    walk = Walk(word, start)
    sizes = [least_size([word], places) for places in walk.seen]
    trails = [walk.begun()]
    while trails:
        trail = trails.pop()
        if walk.is_done(trail):
            yield Way(start, trail.place, sizes[trail.more], walk.fixed_by(trail))
        else:
            trails.extend(walk.branches(trail)[::-1])


def by_size(walk):
    """Go through all trails when they are done, those that see fewer new numbers first."""
    trails = [walk.begun()]
    while trails:
        later = []
        while trails:
            trail = trails.pop()
            if walk.is_done(trail):
                yield trail
                continue
            for branch in walk.branches(trail):
                if branch.more > trail.more:
                    later.append(branch)
                else:
                    trails.append(branch)
        trails = later


def opposites_of(word):
    """Return the opposite turn of each turn of the holes; that of swaps is itself."""
    opposites = {}
    for part in word.parts:
        if part.name:
            turn = part_text(part)
            opposite = part_text(way_back(part)) if word.kinds[part.name] == "wire" else turn
            opposites[turn] = opposite
            opposites[opposite] = turn
    return opposites


def is_full(leads, kind):
    """Tell if as many pairs are fixed as swaps of this kind have at most."""
    most = bound_of(kind)
    return most is not None and pairs_in(leads) >= most


def pairs_in(leads):
    """Return how many pairs of places that change places are fixed for swaps or a mirror."""
    return len([place for place, image in leads.items() if place < image])


def least_unseen(places):
    """Return the least number from 0 on that is none of these places."""
    number = 0
    while number in places:
        number += 1
    return number


def pairs_of(leads, kind):
    """Return the pairs that are fixed for a hole of this kind, ascending."""
    pairs = sorted(list(leads.items()))
    return pairs if kind == "wire" else [pair for pair in pairs if pair[0] <= pair[1]]
