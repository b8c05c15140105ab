"""Halls: where sayings are said and things are asked of all worlds in which they hold."""

from pairsayings.counting import need_things
from pairsayings.errors import NoStep
from pairsayings.odds import chance_of
from pairsayings.records import Record
from pairsayings.sayings import need_closed
from pairsayings.searches import Search
from pairsayings.tongues import need_no_functions
from pairsayings.values import is_sequence

# How many things a step has, by its word.
STEPS = {"say": 2, "drop": 2, "weigh": 3, "back": 1}


def is_step(thing):
    """Tell whether the thing, any object, is written like a step of a trial."""
    if not isinstance(thing, tuple) or len(thing) == 0 or not isinstance(thing[0], str):
        return False
    return STEPS.get(thing[0]) == len(thing)


class Hall:
    """Keeps sayings and weights of a tongue without functions; each step can be taken back."""

    def __init__(self, tongue):
        need_no_functions(tongue)
        self.record = Record(tongue, [((), {})])

    def say(self, saying):
        """Put a closed saying behind the kept ones."""
        self.record.say(saying)

    def drop(self, index):
        """Take out the kept saying with this index."""
        self.record.drop(index)

    def weigh(self, name, fraction):
        """Let this fraction be the weight of the mark or tie from now on."""
        self.record.weigh(name, fraction)

    def said(self):
        """The list of the kept sayings."""
        return list(self.record.sayings())

    def scales(self):
        """A dict of all names that were weighed to their weights."""
        return self.record.weights()

    def language(self):
        """The tongue."""
        return self.record.tongue

    def ask(self, saying):
        """Whether the saying holds where all kept ones hold: "sure", "never" or "open"; "none" if they hold nowhere."""
        tongue = self.record.tongue
        need_closed(tongue, saying)
        patterns = Search(tongue, [*self.record.sayings(), saying]).patterns()
        found = [pattern[-1] for pattern in patterns if 0 not in pattern[:-1]]
        if not found:
            return "none"
        if 0 not in found:
            return "sure"
        return "open" if 1 in found else "never"

    def chance(self, saying, things):
        """The chance of the saying in the worlds with so many things in which all kept ones hold, by the weights."""
        tongue = self.record.tongue
        need_closed(tongue, saying)
        need_things(things)
        return chance_of(tongue, saying, self.record.sayings(), things, self.record.weights(), [])

    def back(self):
        """Take back the last say, drop or weigh that was not taken back."""
        self.record.back()

    def depth(self):
        """How many steps can be taken back."""
        return self.record.depth()

    def trial(self, steps):
        """What would be said behind these steps; all stays as it is."""
        if not is_sequence(steps) or not all([is_step(step) for step in steps]):
            raise NoStep()
        tried = Record(self.record.tongue, list(self.record.states))
        for step in steps:
            tried.take(step)
        return list(tried.sayings())
