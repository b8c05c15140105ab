"""Searches: whether there is a world of some size in which sayings are so and not so, and what it is like."""

from pairsayings.bands import find_band, king_sizes
from pairsayings.builders import Builder
from pairsayings.realms import Realm
from pairsayings.scenes import Case, Scene
from pairsayings.tables import table


class Search:
    """Closed sayings of a tongue without functions, whose worlds are looked for.

    A pattern is a tuple with 1 or 0 for each saying: whether it holds in a world.
    """

    def __init__(self, tongue, sayings):
        self.tongue = tongue
        self.scene = Scene(tongue, sayings)

    def pattern(self, truths):
        """The pattern of the worlds of the case with these truths."""
        return tuple([table(formula, truths, 1) for formula in self.scene.formulas])

    def realms(self, pattern):
        """The list of the realms of all cases with the pattern."""
        found = [truths for truths in self.scene.truths() if self.pattern(truths) == pattern]
        return [Realm(Case(self.scene, truths)) for truths in found]

    def patterns(self):
        """The list of the patterns of all worlds, each once."""
        found = []
        for truths in self.scene.truths():
            pattern = self.pattern(truths)
            if pattern not in found:
                realm = Realm(Case(self.scene, truths))
                if find_band(realm, realm.kinds, False) is not None:
                    found.append(pattern)
        return found

    def builder(self, pattern, crowded):
        """The builder of a world with the pattern, with two like things if it must be crowded; None without one."""
        for realm in self.realms(pattern):
            band = find_band(realm, realm.kinds, crowded)
            if band is not None:
                builder = Builder(band)
                builder.build()
                return builder
        return None

    def world(self, pattern):
        """A world with the pattern; None if there is none."""
        builder = self.builder(pattern, False)
        return None if builder is None else builder.world(self.tongue)

    def few_sizes(self, pattern):
        """The ascending list of the sizes of the worlds with the pattern, if in none of them two things are like."""
        found = [size for realm in self.realms(pattern) for size in king_sizes(realm)]
        return sorted(set(found))
