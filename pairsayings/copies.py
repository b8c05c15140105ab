"""Copies: things of a world that are like each other, and worlds that grow by copies of one."""

from pairsayings.errors import NoThing, NoThings, NotHeld, NotLike
from pairsayings.sayings import need_closed
from pairsayings.shelves import Shelf, flat
from pairsayings.tongues import need_no_functions
from pairsayings.values import is_within
from pairsayings.worlds import MOST_THINGS, World, full_views, is_so, is_thing


def need_pair(world, one, other):
    """Raise NoThing() unless both, any objects, are things of the world."""
    if not is_thing(one, world.things) or not is_thing(other, world.things):
        raise NoThing()


def like(world, saying, one, other):
    """Tell whether two things have the same marks and ties to themselves, and all inner parts are so of both or not."""
    need_closed(world.tongue, saying)
    need_pair(world, one, other)
    return are_like(world, saying, one, other)


def are_like(world, saying, one, other):
    """The same of what are known to be a closed saying and two things."""
    shelf = Shelf()
    flat(saying, shelf)
    views = full_views(world, shelf)
    atoms = [("mark", name, "x") for name in world.tongue.marks]
    atoms.extend([("tie", name, "x", "x") for name in world.tongue.ties])
    atoms.extend([("part", number, "x") for number in shelf.numbers("part")])
    return all([views[one][atom] == views[other][atom] for atom in atoms])


def grown(world, saying, one, other, things):
    """The world with copies of the thing one behind its things, up to so many things."""
    need_no_functions(world.tongue)
    need_closed(world.tongue, saying)
    if not is_so(world, saying, 0, 0):
        raise NotHeld()
    need_pair(world, one, other)
    if one == other or not are_like(world, saying, one, other):
        raise NotLike()
    if not is_within(things, world.things, MOST_THINGS):
        raise NoThings()
    copies = list(range(world.things, things))
    marks = {name: told + tuple([copy for copy in copies if one in told]) for name, told in world.marks.items()}
    ties = {name: grown_pairs(told, one, other, copies) for name, told in world.ties.items()}
    return World(world.tongue, things, marks, ties)


def grown_pairs(pairs, one, other, copies):
    """The list of the pairs of a tie in the world with the copies of one."""
    known = {pair: True for pair in pairs}
    for copy in copies:
        if (one, one) in known:
            known[(copy, copy)] = True
        # Elder copies are among the things ahead of the copy.
        for thing in range(copy):
            model = other if thing == one else thing
            if (one, model) in known:
                known[(copy, thing)] = True
            if (model, one) in known:
                known[(thing, copy)] = True
    return list(known)
