"""Where the uses of a sort lead, through ways out of what they lay on piles."""

from mostspecial.threads import threads_of

# What may lie below the items of a pile: nothing, items that were there, and nothing below items that are laid.
BEGUN = "begun"
BELOW = "below"
LAID = "laid"
# What stands in the place of what lies below if there is no pile.
NO_PILE = "no pile"


def has_item(sort):
    """Whether the uses of a sort have a first item on a pile."""
    return sort[2] is not None and sort[2] != "()"


def is_laying(sort, ask):
    """Whether an ask of a sort hands on what lies below the first item of its pile."""
    return has_item(sort) and ask[3] is not None and ask[3][0] == "laid"


def spot_of(sort, ask):
    """The spot to which an ask of a sort leads.

    A *control* is a tuple of a generic and sights. A *spot* is a tuple of a control, of the sights of items that
    lie on its pile, and of what lies below these: one of the words above, or the sight of a list.
    """
    _, generic, plain, pile, _, _ = ask
    if pile is None:
        return (generic, plain), (), NO_PILE
    if pile[0] == "beside":
        return (generic, plain), pile[1], pile[2]
    if pile[0] == "begun":
        return (generic, plain), pile[1], BEGUN
    return (generic, plain), pile[1], BELOW if has_item(sort) else LAID


def stays(spot):
    """Whether items stay laid below the first one of a spot."""
    return len(spot[1]) > 1 and spot[2] in (BELOW, LAID)


class Moves:
    """Where uses of a view lead by the ways out of its sorts.

    A *way* is a tuple (control, asked), where asked is a tuple of a word and a number. `out` has for each sort
    with a first item a dict from its ways to their threads, which are the keys of dicts.
    """

    def __init__(self, groups, out):
        self.grouping = groups
        self.scope = groups.scope
        self.out = out
        self.known = {}

    def threads_by(self, sort, ask):
        """The threads of an ask of a sort."""
        if (sort, ask) not in self.known:
            self.known[(sort, ask)] = threads_of(self.grouping, sort, ask)
        return self.known[(sort, ask)]

    def ways_out(self, sort):
        """The ways out of a sort with a first item."""
        return self.out.get(sort, {})

    def tops(self, spot):
        """The sorts of uses at a spot, each with what may be left when the first item is gone.

        This is told by tuples of the items that are left, and of what lies below them.
        """
        control, stack, below = spot
        if stack:
            return [((*control, stack[0]), [(stack[1:], below)])]
        if below == NO_PILE:
            return [((*control, None), [])]
        if below in (BEGUN, LAID):
            return [((*control, "()"), [])]
        if below == BELOW:
            return []
        found = [((*control, "()"), [])] if below == self.scope.eyes.empty_sight() else []
        for item, behinds in self.scope.splits_of(below).items():
            found.append(((*control, item), [((), behind) for behind in behinds]))
        return found

    def leads(self, spot):
        """The tuples (spot, asked, threads) of what comes of a spot when the first item is gone."""
        found = []
        for top, left in self.tops(spot):
            for (control, asked), threads in self.ways_out(top).items():
                found.extend([((control, *row), asked, threads) for row in left])
        return found
