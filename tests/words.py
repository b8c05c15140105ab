"""Short words to write sayings with, of the tongues in tests/listed.py."""

P_X, P_Y = ("mark", "p", "x"), ("mark", "p", "y")
Q_X, Q_Y = ("mark", "q", "x"), ("mark", "q", "y")
R_XX, R_XY, R_YX = ("tie", "r", "x", "x"), ("tie", "r", "x", "y"), ("tie", "r", "y", "x")
S_XY, S_YX = ("tie", "s", "x", "y"), ("tie", "s", "y", "x")
F_XX, F_XY, F_YX = ("tie", "f", "x", "x"), ("tie", "f", "x", "y"), ("tie", "f", "y", "x")
SAME = ("same", "x", "y")


def no(saying):
    return ("not", saying)


def both(one, *others):
    for other in others:
        one = ("and", one, other)
    return one


def either(one, other):
    return ("or", one, other)


def each(names, saying):
    for name in reversed(names):
        saying = ("each", name, saying)
    return saying


def some(names, saying):
    for name in reversed(names):
        saying = ("some", name, saying)
    return saying


def out(link):
    """Each thing has another or the same one of which the link is so."""
    return each("x", some("y", link))
