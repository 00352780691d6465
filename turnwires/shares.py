"""Shares: the part of all fillings with which words lead places to places, as a quotient."""

from turnwires.errors import NoShare
from turnwires.keeping import Asking, Keeping
from turnwires.quotients import Quot, added, multiplied
from turnwires.strands import Web
from turnwires.ways import least_unseen, pairs_in
from turnwires.words import bound_of, joined_kinds


def share(word, start, end):
    """Return the share of the fillings with which the word leads the start to the end."""
    return share_of([word], [(start, end)])


def meeting(one, other, start):
    """Return the share of the fillings with which both words lead the start to the same place."""
    check_bounds(joined_kinds(one.kinds, other.kinds))
    return share_of([one >> ~other], [(start, start)])


def mean(word):
    """Return the mean number of the places that the word leads to themselves."""
    check_bounds(word.kinds)
    sharing = Sharing([word])
    # All places that the word does not name are alike to it: one of them stands for all.
    new = least_unseen(word.named)
    top = multiplied([-len(word.named), 1], sharing.total([(new, new)]))
    for place in word.named:
        top = added(top, sharing.total([(place, place)]))
    return Quot(top, sharing.whole())


def reach(word, numbers=()):
    """Return the size from which on the shares of the word are told by their quotients."""
    return reach_of([word], numbers)


def reach_of(words, numbers=()):
    """Return the same for several words, whose uses of each hole are added up."""
    named = [place for word in words for place in word.named]
    return max([1, *[place + 1 for place in [*named, *numbers]], *list(uses_in(words).values())])


def share_of(words, ends):
    """Return the share of the fillings with which each word leads its start to its end."""
    kinds = {}
    for word in words:
        kinds.update(word.kinds)
    check_bounds(kinds)
    sharing = Sharing(words)
    # To ask takes far less time than to count, and settles it if the words contradict one another.
    top = sharing.total(ends) if Asking(sharing.web).total(ends) else []
    return Quot(top, sharing.whole())


def check_bounds(kinds):
    """Raise an error for the first hole that is for swaps without a bound."""
    for name in sorted(kinds):
        if kinds[name] == "swaps":
            raise NoShare(name)


def uses_in(words):
    """Return how many uses the words together have of each hole."""
    uses = {}
    for word in words:
        for part in word.parts:
            if part.name:
                uses[part.name] = uses.get(part.name, 0) + 1
    return uses


class Sharing(Keeping):
    """The number of the fillings for all sizes n at once, as a polynomial in n.

    The wires of each hole are counted in a unit of their own, which depends on n alone. So
    their number is a polynomial in n, whatever the uses of the hole fix. `whole` tells the
    number of all fillings in the same units.
    """

    def __init__(self, words):
        Keeping.__init__(self, Web(words), [1], [])
        self.uses = uses_in(words)

    def whole(self):
        """Return the sum over all fillings, whether the sightings hold or not."""
        product = self.one
        for name in self.uses:
            product = self.both(product, self.rest(name, {}))
        return product

    def either(self, one, other):
        """Return the sum over two kinds of fillings."""
        return added(one, other)

    def both(self, one, other):
        """Return the sum over the fillings of two kinds of holes."""
        return multiplied(one, other)

    def others(self, many):
        """Return what stands for the number of places that are none of so many."""
        return [-many, 1]

    def rest(self, turn, leads):
        """Return the sum over all wires of a hole with which the leads hold."""
        kind = self.web.sorts[turn]
        many = len(leads)
        if kind == "wire":
            # There are (n - many)! wires. The unit is (n - uses)! wires.
            return product_of(many, self.uses[turn], 1)
        if kind == "mirror":
            # There are (n - many - 1) * (n - many - 3) * .. * 1 mirrors.
            return product_of(many + 1, 2 * self.uses[turn], 2)
        # In i pairs n - many places can be made in (n - many) * (n - many - 1) * .. ways, a
        # product of 2 * i factors, over i! * 2 ** i. The unit is 1 / (most! * 2 ** most).
        most = bound_of(kind)
        total = []
        weight = 1
        for pairs in range(most, -1, -1):
            if pairs + pairs_in(leads) <= most:
                first = many + 2 * pairs
                total = added([weight], multiplied(product_of(first, first + 2, 1), total))
            weight = weight * 2 * pairs
        return total


def product_of(first, behind, step):
    """Return the product of the polynomials n - k, for k from the first on, as long as k < behind."""
    product = [1]
    for number in range(first, behind, step):
        product = multiplied(product, [-number, 1])
    return product
