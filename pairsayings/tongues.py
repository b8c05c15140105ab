"""Tongues: the names of the marks and of the ties that sayings may use."""

from pairsayings.errors import HasFunctions, NoTongue
from pairsayings.values import is_sequence

LETTERS = "abcdefghijklmnopqrstuvwxyz"
LONGEST_WORD = 6
NO_NAMES = ("x", "y", "true", "not", "and", "or", "each", "some")
MOST_MARKS = 3
MOST_TIES = 2
MOST_FUNCTIONS = 1


def is_word(thing):
    """Tell whether the thing, any object, is a string of 1 to 6 letters from a to z."""
    if not isinstance(thing, str) or not 1 <= len(thing) <= LONGEST_WORD:
        return False
    return all([letter in LETTERS for letter in thing])


def is_name(thing):
    """Tell whether the thing, any object, is a name for a mark or a tie."""
    return is_word(thing) and thing not in NO_NAMES


def are_names(thing, most):
    """Tell whether the thing, any object, is a sequence of unlike names, so many at most."""
    if not is_sequence(thing) or len(thing) > most:
        return False
    if not all([is_name(name) for name in thing]):
        return False
    return len(set(thing)) == len(thing)


def are_functions(thing, ties):
    """Tell whether the thing, any object, is a sequence of at most one of the ties."""
    if not is_sequence(thing) or len(thing) > MOST_FUNCTIONS:
        return False
    # Only a name is compared with the ties: bytes beside strings can make Python warn.
    return all([is_name(name) and name in ties for name in thing])


class Tongue:
    """The marks and ties of a tongue, and which of the ties are functions."""

    # The fields are properties because a World has properties of the same names.

    def __init__(self, marks, ties, functions):
        if not are_names(marks, MOST_MARKS):
            raise NoTongue("marks")
        if not are_names(ties, MOST_TIES) or any([tie in marks for tie in ties]):
            raise NoTongue("ties")
        if not are_functions(functions, ties):
            raise NoTongue("functions")
        self._marks = tuple(marks)
        self._ties = tuple(ties)
        self._functions = tuple(functions)

    @property
    def marks(self):
        """The tuple of the names of the marks."""
        return self._marks

    @property
    def ties(self):
        """The tuple of the names of the ties."""
        return self._ties

    @property
    def functions(self):
        """The tuple of the names of the ties of which each thing has just one."""
        return self._functions

    def __eq__(self, other):
        return (isinstance(other, Tongue) and self._marks == other._marks
                and self._ties == other._ties and self._functions == other._functions)


def need_no_functions(tongue):
    """Raise HasFunctions() if the tongue has a function."""
    if tongue.functions:
        raise HasFunctions()
