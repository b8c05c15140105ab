"""Records: the sayings and weights that are kept, step by step, so that each step can be taken back."""

from pairsayings.errors import NoSaid, NoUndo, NoWeights, TooMany
from pairsayings.sayings import need_closed
from pairsayings.values import is_fraction, is_within

MOST_SAID = 3


class Record:
    """The states of a hall of this tongue, the last one behind: pairs of a tuple of sayings and a dict of weights."""

    def __init__(self, tongue, states):
        self.tongue = tongue
        self.states = states

    def sayings(self):
        """The tuple of the sayings that are kept."""
        return self.states[-1][0]

    def weights(self):
        """A new dict of the weights that are kept."""
        return dict(self.states[-1][1])

    def say(self, saying):
        """Keep a closed saying behind the others."""
        need_closed(self.tongue, saying)
        if len(self.sayings()) >= MOST_SAID:
            raise TooMany()
        self.states.append((self.sayings() + (saying,), self.weights()))

    def drop(self, index):
        """Keep the saying with this index no longer."""
        sayings = self.sayings()
        if not is_within(index, 0, len(sayings) - 1):
            raise NoSaid()
        self.states.append((sayings[:index] + sayings[index + 1:], self.weights()))

    def weigh(self, name, fraction):
        """Keep this fraction as the weight of a mark or tie."""
        if not isinstance(name, str) or name not in self.tongue.marks + self.tongue.ties or not is_fraction(fraction):
            raise NoWeights()
        self.states.append((self.sayings(), {**self.weights(), name: fraction}))

    def back(self):
        """Take back the last step."""
        if self.depth() == 0:
            raise NoUndo()
        self.states.pop()

    def depth(self):
        """How many steps can be taken back."""
        return len(self.states) - 1

    def take(self, step):
        """Take a step, written as a tuple of a word and of what belongs to it."""
        word = step[0]
        if word == "say":
            self.say(step[1])
        elif word == "drop":
            self.drop(step[1])
        elif word == "weigh":
            self.weigh(step[1], step[2])
        else:
            self.back()
