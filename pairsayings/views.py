"""Views: what a world tells of a thing as x beside all its things as y, a bit for each thing as y."""

from pairsayings.tables import all_bits, bits_of, has_bit, table


def world_views(world):
    """The list of the views of all things as x: dicts from atoms to bits."""
    marks = world.marks
    ties = world.ties
    full = all_bits(world.things)
    views = [same_atoms(x, full) for x in range(world.things)]
    for name in marks:
        bits = bits_of(marks[name])
        for x, view in enumerate(views):
            add_thing(view, ("mark", name), x, bits, full)
    for name in ties:
        add_tie(views, name, ties[name], full)
    return views


def same_atoms(x, full):
    """The view of the thing with what hangs on no marks and ties."""
    own = 1 << x
    return {("true",): full, ("same", "x", "x"): full, ("same", "y", "y"): full,
            ("same", "x", "y"): own, ("same", "y", "x"): own}


def add_thing(view, atom, x, bits, full):
    """Put into the view of x, for x and for y, what is so of the things of the bits."""
    view[atom + ("x",)] = full if has_bit(bits, x) else 0
    view[atom + ("y",)] = bits


def add_tie(views, name, pairs, full):
    """Put the tie that leads from the first to the second one of each pair into all views."""
    leads_to = [0] * len(views)
    comes_from = [0] * len(views)
    loops = 0
    for one, other in pairs:
        leads_to[one] |= 1 << other
        comes_from[other] |= 1 << one
        if one == other:
            loops |= 1 << one
    for x, view in enumerate(views):
        view[("tie", name, "x", "y")] = leads_to[x]
        view[("tie", name, "y", "x")] = comes_from[x]
        view[("tie", name, "x", "x")] = full if has_bit(loops, x) else 0
        view[("tie", name, "y", "y")] = loops


def add_shelf(views, shelf):
    """Put what stands on the shelf into all views, in its order: later entries name earlier ones."""
    full = all_bits(len(views))
    for number, (word, body) in enumerate(shelf.entries):
        if word == "part":
            bits = bits_of([x for x, view in enumerate(views) if table(body, view, full) != 0])
            for x, view in enumerate(views):
                add_thing(view, ("part", number), x, bits, full)
        else:
            # The body says nothing of x, so that each view tells the same.
            so = full if table(body, views[0], full) != 0 else 0
            for view in views:
                view[("closed", number)] = so
