"""Reading expressions in a view: their values, by what they ask there."""

from mostspecial.errors import Lacks, RingOfConstants
from mostspecial.machine import Machine, Scene
from mostspecial.matches import put_in_all


class Reader(Machine):
    """What reads expressions in one view, with the values of constants that are kept."""

    def __init__(self, choices, meter):
        Machine.__init__(self, {}, meter)
        self.choices = choices
        self.kept = {}
        self.begun = {}

    def read_other(self, expression, scene):
        """Read a number variable, a name or a constant, or keep the value of a constant that has been read."""
        head = expression[0]
        if head == "of":
            self.push(scene.chosen.binding[expression[1]])
        elif head == "name":
            self.read_name(expression[1], scene)
        elif head == "const":
            chosen = self.ask(expression, scene, -1)
            self.reckon(chosen, expression[3], scene.deep)
        else:
            self.kept[expression[1]] = self.worths[-1]
            del self.begun[expression[1]]

    def read_name(self, word, scene):
        """Read a parameter, or a constant of the same definition."""
        if word in scene.named:
            self.push(scene.named[word])
        else:
            self.reckon(scene.chosen, word, scene.deep)

    def ask(self, expression, scene, many):
        """The choice of the use that stands in an expression, which has the member that is asked for."""
        _, generic, terms, word = expression[:4]
        if scene.chosen is not None:
            terms = put_in_all(terms, scene.chosen.binding)
        self.choices.check_size(generic, terms)
        chosen = self.choices.choice(generic, terms)
        if not chosen.has(word, many):
            raise Lacks(generic, terms, word, many)
        return chosen

    def reckon(self, chosen, word, deep):
        """Take the value of a constant that is asked for so deep, or note that it must be reckoned."""
        key = (chosen.text, word)
        if key in self.kept:
            self.push(self.kept[key])
            return
        if key in self.begun:
            raise RingOfConstants(chosen.generic, chosen.terms, word)
        self.meter.tick(deep + 1)
        self.begun[key] = True
        # No expression has such a head: this is read when the value is there, and keeps it.
        self.todo.append(("read", ("keep", key), None))
        self.todo.append(("read", chosen.constants[word], Scene(chosen, {}, deep + 1)))

    def call(self, expression, args, scene):
        """Call a function of the same definition or of an inner use."""
        if expression[0] == "own":
            chosen, word = scene.chosen, expression[1]
        else:
            chosen, word = self.ask(expression, scene, len(args)), expression[3]
        self.enter(chosen.functions[(word, len(args))], args, Scene(chosen, {}, scene.deep))
