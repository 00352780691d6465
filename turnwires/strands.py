"""Strands: what is left of sightings while it is fixed, place by place, where the wires lead.

A sighting tells that a word leads a place, its start, to a place, its end. Its uses are passed
from both ends, as far as it is fixed where they lead. What is left is a strand (number, first,
last, left, right): the turns first to last - 1 of the row of this number lead left to right.
What is fixed are leads: a dict for each turn, which is a hole or its way back as a text, that
tells where it leads places. New places, which nobody named, are negative numbers here.
"""

from turnwires.ways import is_full, opposites_of
from turnwires.words import part_text


class Row:
    """A word as a row of turns, with the known wires between them.

    `joints[k]` are the moves of the known wire before the turn k, the last ones of all those of
    the known wire behind the last turn; `backs` are the moves of their ways back.
    """

    def __init__(self, word):
        self.turns = []
        self.joints = [{}]
        for part in word.parts:
            if part.name:
                self.turns.append(part_text(part))
                self.joints.append({})
            else:
                self.joints[-1] = part.moves
        self.backs = [{image: place for place, image in moves.items()} for moves in self.joints]


class Web:
    """The words of sightings, as rows, with the kinds of all turns and their opposite turns."""

    def __init__(self, words):
        self.rows = [Row(word) for word in words]
        self.opposites = {}
        self.sorts = {}
        for word in words:
            turns = opposites_of(word)
            kinds = word.kinds
            self.opposites.update(turns)
            self.sorts.update({turn: kinds[turn.removeprefix("~")] for turn in turns})

    def strands_of(self, ends):
        """Return the strands of sightings with these pairs of a start and an end, or None.

        There are none if a word without holes leads elsewhere.
        """
        strands = []
        for number, (start, end) in enumerate(ends):
            row = self.rows[number]
            left = row.joints[0].get(start, start)
            if row.turns:
                right = row.backs[-1].get(end, end)
                strands.append((number, 0, len(row.turns), left, right))
            elif left != end:
                return None
        return strands

    def free_images(self, turn, place, images, leads):
        """Return those of the images to which the turn can lead the place, which is not fixed."""
        kind = self.sorts[turn]
        taken = leads[self.opposites[turn]]
        free = [image for image in images if image not in taken]
        if kind == "wire":
            return free
        if kind == "mirror":
            return [image for image in free if image != place]
        return [image for image in free if image == place] if is_full(taken, kind) else free

    def with_fixed(self, leads, turn, place, image):
        """Return the leads with which the turn leads the place to the image, too."""
        opposite = self.opposites[turn]
        more = dict(leads)
        more[turn] = {**more[turn], place: image}
        more[opposite] = {**more[opposite], image: place}
        return more

    def settled(self, strands, leads):
        """Return the strands led on as far as that is fixed, and the leads, or None.

        What a strand of one use fixes is fixed, too. There is None if a strand cannot hold.
        """
        is_changed = True
        while is_changed:
            is_changed = False
            rest = []
            for strand in strands:
                number, first, last, left, right = self.passed(strand, leads)
                if last - first > 1:
                    rest.append((number, first, last, left, right))
                elif first < last:
                    turn = self.rows[number].turns[first]
                    if not self.free_images(turn, left, [right], leads):
                        return None
                    leads = self.with_fixed(leads, turn, left, right)
                    is_changed = True
                elif left != right:
                    return None
            strands = rest
        return strands, leads

    def passed(self, strand, leads):
        """Return what is left of the strand without the turns at its ends that are fixed."""
        number, first, last, left, right = strand
        row = self.rows[number]
        while first < last:
            turn = row.turns[first]
            opposite = self.opposites[row.turns[last - 1]]
            if left in leads[turn]:
                first += 1
                left = leads[turn][left]
                if first < last:
                    left = row.joints[first].get(left, left)
            elif last - first > 1 and right in leads[opposite]:
                last -= 1
                right = leads[opposite][right]
                right = row.backs[last].get(right, right)
            else:
                break
        return number, first, last, left, right

    def names_in(self, span):
        """Return the names of the holes in a span (number, first, last) of a row."""
        number, first, last = span
        return [turn.removeprefix("~") for turn in self.rows[number].turns[first:last]]

    def joints_in(self, spans):
        """Return the joints within spans: the turns before and behind each, and its moves."""
        joints = []
        for number, first, last in spans:
            row = self.rows[number]
            joints.extend([(row.turns[at - 1], row.turns[at], row.joints[at]) for at in range(first + 1, last)])
        return joints


class Group:
    """Strands that hang together by their holes, as far as it does not depend on their places.

    `indexes` tell which strands these are, `spans` their (number, first, last), `turns` the
    turns of their holes. A place that a turn leads stands in the room of that turn, its image
    in the room of the opposite turn. A place between two turns stands in the rooms of both, so
    these are one. Places have to be told apart from those in the same room alone. `moved` are
    for each room the places that the known wires there move, `doors` the turns that lead from
    there with the rooms to which they lead, `ends` the rooms of both ends of each strand.
    """

    def __init__(self, web, indexes, spans):
        self.indexes = indexes
        self.spans = spans
        names = [name for span in spans for name in web.names_in(span)]
        self.turns = [turn for turn in sorted(web.opposites) if turn.removeprefix("~") in names]
        self.rooms = {turn: turn for turn in self.turns}
        for turn, after, _ in web.joints_in(spans):
            one, other = self.rooms[web.opposites[turn]], self.rooms[after]
            self.rooms = {name: other if room == one else room for name, room in self.rooms.items()}
        self.moved = {room: [] for room in sorted(set(list(self.rooms.values())))}
        self.doors = {room: [] for room in self.moved}
        for _, after, moves in web.joints_in(spans):
            places = self.moved[self.rooms[after]]
            places.extend([place for place in sorted(moves) if place not in places])
        for turn, room in self.rooms.items():
            self.doors[room].append((turn, self.rooms[web.opposites[turn]]))
        self.ends = []
        for number, first, last in spans:
            turns = web.rows[number].turns
            self.ends.append((self.rooms[turns[first]], self.rooms[web.opposites[turns[last - 1]]]))

    def places_by_room(self, strands, leads):
        """Return the places that stand in each room, as dicts with them as keys."""
        places = {room: {place: True for place in self.moved[room]} for room in self.moved}
        for (room, onward), strand in zip(self.ends, strands):
            places[room][strand[3]] = True
            places[onward][strand[4]] = True
        for turn, room in self.rooms.items():
            places[room].update(leads[turn])
        return places

    def mark(self, strands, leads):
        """Return a mark: strands and leads that share it are the same but for the names of places.

        In a mark, places that a known wire moves keep their numbers. The other ones get numbers
        in the order in which the turns lead to them from the ends of the strands. (If there are
        others still, what is the same may have two marks, and is done twice.)
        """
        marks = {room: {} for room in self.moved}
        found = [(room, place) for room in self.moved for place in self.moved[room]]
        for room, place in found:
            marks[room][place] = place
        roots = []
        for (room, onward), strand in zip(self.ends, strands):
            roots.extend([(room, strand[3]), (onward, strand[4])])
        roots.extend([(room, place) for turn, room in self.rooms.items() for place in leads[turn]])
        at = 0
        for room, place in roots:
            if place not in marks[room]:
                marks[room][place] = -1 - len(found)
                found.append((room, place))
            while at < len(found):
                here, known = found[at]
                at += 1
                for turn, there in self.doors[here]:
                    if known in leads[turn] and leads[turn][known] not in marks[there]:
                        marks[there][leads[turn][known]] = -1 - len(found)
                        found.append((there, leads[turn][known]))
        return self.spans, self.marked(strands, leads, marks)

    def marked(self, strands, leads, marks):
        """Return the ends and the leads with the marks of the places, by their rooms."""
        ends = [(marks[room][strand[3]], marks[onward][strand[4]])
                for (room, onward), strand in zip(self.ends, strands)]
        maps = []
        for room in self.doors:
            for turn, onward in self.doors[room]:
                if not turn.startswith("~"):
                    here, there = marks[room], marks[onward]
                    row = [(here[place], there[image]) for place, image in leads[turn].items()]
                    maps.append(tuple(sorted(row)))
        return tuple(ends), tuple(maps)


def groups_of(web, spans):
    """Return the groups of the strands with these spans: those of two groups share no hole."""
    groups = []
    for index, span in enumerate(spans):
        indexes, names = [index], web.names_in(span)
        apart = []
        for others, more in groups:
            if any([name in more for name in names]):
                indexes, names = others + indexes, names + more
            else:
                apart.append((others, more))
        groups = [*apart, (sorted(indexes), names)]
    return [Group(web, indexes, tuple([spans[index] for index in indexes])) for indexes, _ in groups]
