"""The ends of what is laid on piles, by given ways out."""


class Ends:
    """The ends of asks with "laid", with their threads, by the ways of some moves."""

    def __init__(self, moves):
        self.moves = moves
        self.ways_on = {}
        self.rows_on = {}

    def all_ends(self, spot, asked):
        """The ends of an ask that leads to a spot."""
        control, stack, _ = spot
        return self.ends_of(spot) if stack else [(control, asked)]

    def ends_of(self, spot):
        """The ends of what leads to a spot with items, which has fewer of them at each step."""
        if spot not in self.ways_on:
            rows = [(other, asked) for other, asked, _ in self.moves.leads(spot)]
            if len(spot[1]) > 1:
                spots = list({other: True for other, asked in rows})
                self.ways_on[spot] = list({way: True for other in spots for way in self.ends_of(other)})
            else:
                self.ways_on[spot] = [(other[0], asked) for other, asked in rows]
        return self.ways_on[spot]

    def threads_on(self, spot, asked, thread):
        """The tuples (way, thread) of the ends of an ask that leads to a spot, by one of its threads."""
        control, stack, _ = spot
        a, b, falls = thread
        if not stack:
            return [((control, asked), thread)]
        return [(way, (a, c, falls or more)) for way, c, more in self.rows_of(spot, b)]

    def rows_of(self, spot, b):
        """The tuples (way, c, falls) of the threads (b, c, falls) from a spot with items to its ends."""
        key = (spot, b)
        if key not in self.rows_on:
            found = {}
            for other, asked, threads in self.moves.leads(spot):
                for thread in threads:
                    if thread[0] == b:
                        for way, (_, c, falls) in self.threads_on(other, asked, thread):
                            found[(way, c, falls)] = True
            self.rows_on[key] = list(found)
        return self.rows_on[key]
