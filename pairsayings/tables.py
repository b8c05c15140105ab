"""Tables: integers with a bit for each of many cases, set where a formula is so."""


def table(formula, atoms, full):
    """The bits of the cases in which a formula is so: atoms has those of its inmost formulas, full has all."""
    word = formula[0]
    if word == "not":
        return full ^ table(formula[1], atoms, full)
    if word == "and":
        return table(formula[1], atoms, full) & table(formula[2], atoms, full)
    if word == "or":
        return table(formula[1], atoms, full) | table(formula[2], atoms, full)
    return atoms[formula]


def all_bits(many):
    """The integer whose bits 0 and so on, so many of them, are set."""
    return (1 << many) - 1


def column(place, width):
    """The bits of those of 2 ** width cases in whose number the bit at the place is set."""
    bits = all_bits(1 << place) << (1 << place)
    for higher in range(place + 1, width):
        bits |= bits << (1 << higher)
    return bits


def bits_of(places):
    """The integer with just these bits set, each named once."""
    return sum([1 << place for place in places])


def has_bit(bits, place):
    """Tell whether the bit at the place is set."""
    return (bits >> place) & 1 == 1
