"""Uses together with the members for which they are asked, of definitions that ask one inner use each."""

from mostspecial.scopes import Scope


def members_asked(definition):
    """The tuples (word, many) of the members for which the one inner use of a definition is asked."""
    return tuple(sorted([(handed.word, handed.many) for handed in definition.handed]))


class Lanes:
    """What uses of a view come to where none goes badly; it stands for the groups of the view.

    In the place of a generic stands a tuple of it and of the members for which the use is asked, none for an open
    use that nothing asks. Uses whose choice lacks one of these ask nothing here.
    """

    def __init__(self, groups):
        self.base = groups
        scope = groups.scope
        self.definitions = {case.mark: case.definition for word in groups.cases for case in groups.cases[word]}
        shapes = {(word, ()): scope.shapes[word] for word in scope.shapes}
        for definition in self.definitions.values():
            for handed in definition.handed:
                shapes[(handed.generic, members_asked(definition))] = handed.shape
        self.scope = Scope(scope.library, scope.told, shapes, [(word, ()) for word in scope.openly])

    def goes_on(self, definition, sort):
        """Whether a definition has all members for which uses of a sort are asked."""
        return all([definition.has(word, many) for word, many in sort[0][1]])

    def asks_for(self, sort):
        """What uses of a sort ask that do not go badly, one member for each use that is asked, with its weight."""
        found = {}
        for ask, weight in self.base.asks_for(base_sort(sort)).items():
            definition = self.definitions[ask[0]]
            members = members_asked(definition)
            if ask[4:] == members[0] and self.goes_on(definition, sort):
                found[lane_ask(ask, members)] = weight
        return found

    def inner_uses(self, sort, ask):
        """The definition that asks, and what it hands on by which it does."""
        return self.base.inner_uses(base_sort(sort), base_ask(ask))


def base_sort(sort):
    """The sort of the uses alone."""
    return (sort[0][0], *sort[1:])


def lane_ask(ask, members):
    """What is asked, with all members for which it is asked."""
    return (ask[0], (ask[1], members), *ask[2:])


def base_ask(ask):
    """What is asked, without the other members for which it is asked, too."""
    return (ask[0], ask[1][0], *ask[2:])
