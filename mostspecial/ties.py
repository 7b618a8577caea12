"""Number variables that are tied together, step by step, by forms that must be equal."""

from mostspecial.progressions import common


class Ties:
    """Number variables, each of which is told by a number that may still be anything, or is known.

    For a variable, `stands` has a tuple (shared, times, plus): it stands for times * n + plus, where n is
    any number from 0 on, the same one for all variables with the same `shared`; if this is None, times is 0.
    All that is left of the variables is always told just so, for as each equation ties two variables with
    positive factors, the values of tied ones rise together. A place is a tuple (variable, times, plus), or
    (None, 0, number).
    """

    def __init__(self):
        self.stands = []

    def free(self):
        """A new variable, which may stand for any number."""
        variable = len(self.stands)
        self.stands.append((variable, 1, 0))
        return variable

    def now(self, place):
        """What a place stands for by now: a tuple as in `stands`."""
        variable, times, plus = place
        if variable is None:
            return place
        shared, own_times, own_plus = self.stands[variable]
        return shared, times * own_times, times * own_plus + plus

    def unite(self, one, other):
        """Make two places equal. It tells whether they can be."""
        left, right = self.now(one), self.now(other)
        if left[0] is not None and right[0] is not None and left[0] != right[0]:
            return self.unite_unlike(left, right)
        factor, value = left[1] - right[1], right[2] - left[2]
        if factor == 0:
            return value == 0
        if value % factor != 0 or value // factor < 0:
            return False
        self.put(right[0] if left[0] is None else left[0], (None, 0, value // factor))
        return True

    def unite_unlike(self, left, right):
        """Make two places equal that have not been tied together."""
        met = common(left[1:], right[1:])
        if met is None:
            return False
        step, first = met
        for shared, times, plus in (left, right):
            self.put(shared, (left[0], step // times, (first - plus) // times))
        return True

    def put(self, shared, new):
        """Put what a tuple as in `stands` tells in place of the number that some variables share."""
        for variable, (old, times, plus) in enumerate(list(self.stands)):
            if old == shared:
                self.stands[variable] = (new[0], times * new[1], times * new[2] + plus)

    def term(self, place):
        """The term at a place."""
        shared, times, plus = self.now(place)
        return plus if shared is None else ("form", times, f"n{shared}", plus)
