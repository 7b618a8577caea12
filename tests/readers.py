"""Open uses read on one by one: what the rings, papers and verdicts of a library must agree with."""

from mostspecial.expressions import all_in
from mostspecial.matches import matching, put_in_all
from mostspecial.sources import expression_of
from mostspecial.termtexts import write_terms
from tests.trials import World, count_of


def key_of(generic, terms):
    return generic, write_terms(terms)


class Reading:
    """All uses that are made for an open use of a view, up to so many.

    `made` has tuples (generic, terms, choice, asks), `over` tells that there are more, `wrong` that one of these goes badly.
    """

    def __init__(self, world, generic, terms, most=150):
        self.world = world
        self.made, self.over, self.wrong = {}, False, False
        level, asks = [(generic, terms, None, None)], 0
        while level and not self.over:
            following = []
            for row in level:
                word, use = row[:2]
                self.wrong = self.wrong or world.wrong((asks, *row)) is not None
                key = key_of(word, use)
                if key in self.made:
                    continue
                if len(self.made) == most:
                    self.over = True
                    break
                choice, asked = world.asked(word, use)
                self.made[key] = (word, use, choice, asks)
                following.extend(new[:4] for new in asked)
            level, asks = following, asks + 1

    def constants_asked(self, generic, terms, choice, word):
        """The constants that one asks: tuples (generic, terms, word)."""
        binding, found = matching(choice[2], terms), []
        for member in choice[3]:
            if member[:2] == ("const", word):
                for part in all_in(expression_of(member)):
                    if part[0] == "name":
                        found.append((generic, terms, part[1]))
                    elif part[0] == "const":
                        found.append((part[1], put_in_all(part[2], binding), part[3]))
        return found

    def lacks_value(self, deep=120, steps=60000):
        """Whether a constant of these uses asks for itself, or goes on for so many constants, one after another."""
        done = set()
        for generic, terms, choice, _ in self.made.values():
            words = [] if isinstance(choice, str) else [member[1] for member in choice[3] if member[0] == "const"]
            for word in words:
                trail, on = [], set()

                def enter(row):
                    choice = self.world.choice(*row[:2])
                    rows = [] if isinstance(choice, str) else self.constants_asked(*row[:2], choice, row[2])
                    on.add((*key_of(*row[:2]), row[2]))
                    trail.append((row, iter(rows)))
                enter((generic, terms, word))
                while trail:
                    steps -= 1
                    row, left = trail[-1]
                    following = next(left, None)
                    if following is None:
                        trail.pop()
                        on.discard((*key_of(*row[:2]), row[2]))
                        done.add((*key_of(*row[:2]), row[2]))
                        continue
                    key = (*key_of(*following[:2]), following[2])
                    if key in on or len(trail) > deep:
                        return True
                    if steps < 0:
                        return None
                    if key not in done:
                        enter(following)
        return False

    def goes_well(self):
        """Whether the open use goes well, if it goes badly or without end within so many uses."""
        return not self.wrong and not self.over and self.lacks_value() is False

    def choices(self, library):
        """The marks of the choices of these uses, by what counts of them."""
        found = {}
        for generic, terms, choice, _ in self.made.values():
            if not isinstance(choice, str):
                found[repr(count_of(library, generic, terms))] = choice[0]
        return found


def reading(library, k, use, most=150):
    """The reading of an open use of a view."""
    return Reading(World(library, k), *use, most)
