"""What the tests of several functions share: calls by place and by name, and faults in several arguments."""

import inspect
import itertools
import unittest


def named(function, args):
    """The arguments by the names of the function's parameters, the last one first."""
    return dict(reversed(list(zip(inspect.signature(function).parameters, args))))


class Case(unittest.TestCase):
    def tell(self, function, *args):
        """The result of the call, by place; by name it must be the same."""
        found = function(*args)
        self.assertEqual(function(**named(function, args)), found)
        return found

    def refuse(self, error, function, *args):
        """Check that the call raises just this error, by place and by name."""
        with self.assertRaises(error) as caught:
            function(*args)
        self.assertIs(type(caught.exception), error)
        with self.assertRaises(error):
            function(**named(function, args))

    def refuse_in_order(self, function, good, faults):
        """Check that of several wrong arguments the first one counts.

        The faults are triples (place, wrong argument, error), in the order in which the errors are raised.
        """
        for many in range(1, len(faults) + 1):
            for chosen in itertools.combinations(faults, many):
                args = list(good)
                # The first fault of a place is the one that stays there.
                for place, wrong, _ in reversed(chosen):
                    args[place] = wrong
                self.refuse(chosen[0][2], function, *args)
