"""The desk: a tongue and named sayings, spoken to in lines."""

from pairsayings.chances import chance
from pairsayings.counting import count
from pairsayings.errors import NoChance, NoLine, NoName, NoText, NoTongue
from pairsayings.follow import parting
from pairsayings.sizes import sizes
from pairsayings.texts import read_saying, saying_text
from pairsayings.tongues import Tongue, is_word

DIGITS = "0123456789"
MOST_DIGITS = 6
NOTHING = "-"
# What stands behind the first word of a line; a formula takes all that is left of it.
FORMS = {
    "tongue": ("names", "names", "names"),
    "let": ("name", "formula"),
    "count": ("name", "things"),
    "chance": ("name", "name", "things"),
    "sizes": ("name",),
    "same": ("name", "name"),
    "show": ("name",),
    "names": (),
}


def words_of(line):
    """The list of the words of a line, a formula as one; NoLine() if the line, any object, is not written so."""
    if not isinstance(line, str):
        raise NoLine()
    first, _, _ = line.partition(" ")
    form = FORMS.get(first)
    if form is None:
        raise NoLine()
    words = line.split(" ", len(form))
    # Without a form for it, what stands behind the first word is still in it.
    if words[0] != first or len(words) != len(form) + 1:
        raise NoLine()
    if not all([fits(kind, word) for kind, word in zip(form, words[1:])]):
        raise NoLine()
    return words


def fits(kind, word):
    """Tell whether a word may stand at such a place; names and formulas are looked at elsewhere."""
    if kind == "name":
        return is_word(word)
    if kind == "things":
        return is_written_number(word)
    return True


def is_written_number(word):
    """Tell whether the word is a number from 1 on, of one to six digits."""
    if not 1 <= len(word) <= MOST_DIGITS or word[0] == "0":
        return False
    return all([sign in DIGITS for sign in word])


def read_names(word):
    """The list of the names that are joined by commas in the word."""
    return [] if word == NOTHING else word.split(",")


def read_tongue(words):
    """The tongue whose marks, ties and functions the three words tell; NoLine() if there is none."""
    try:
        return Tongue(read_names(words[0]), read_names(words[1]), read_names(words[2]))
    except NoTongue:
        raise NoLine() from None


def read_formula(tongue, text):
    """The saying of the tongue with this text; NoLine() if there is none."""
    try:
        return read_saying(tongue, text)
    except NoText:
        raise NoLine() from None


def written_chance(tongue, saying, given, things):
    """The chance as a text; "none" if given holds in no world."""
    try:
        top, bottom = chance(tongue, saying, given, things, {})
    except NoChance:
        return "none"
    return f"{top}/{bottom}"


def written_sizes(tongue, saying):
    """What sizes the worlds of the saying have, as a text."""
    found = sizes(tongue, saying)
    if found[0] == "from":
        return f"from {found[1].things}"
    if found[0] == "few":
        return " ".join(["few"] + [str(size) for size in found[1]])
    return "none"


class Desk:
    """Keeps a tongue and named sayings of it."""

    def __init__(self):
        self.tongue = Tongue((), (), ())
        self.named = {}

    def run(self, line):
        """Do what the line asks for; its answer."""
        words = words_of(line)
        if words[0] == "tongue":
            self.tongue = read_tongue(words[1:])
            self.named = {}
            return "ok"
        if words[0] == "let":
            self.named[words[1]] = read_formula(self.tongue, words[2])
            return "ok"
        if words[0] == "names":
            return " ".join(sorted(self.named)) if self.named else NOTHING
        return self.answer(words)

    def answer(self, words):
        """The answer to a line that asks for something of named sayings."""
        word = words[0]
        sayings = [self.saying(name) for kind, name in zip(FORMS[word], words[1:]) if kind == "name"]
        if word == "count":
            return str(count(self.tongue, sayings[0], int(words[2])))
        if word == "chance":
            return written_chance(self.tongue, sayings[0], sayings[1], int(words[3]))
        if word == "sizes":
            return written_sizes(self.tongue, sayings[0])
        if word == "same":
            return "yes" if parting(self.tongue, sayings[0], sayings[1]) is None else "no"
        return saying_text(self.tongue, sayings[0])

    def saying(self, name):
        """The saying with this name; NoName(name) if none is kept."""
        if name not in self.named:
            raise NoName(name)
        return self.named[name]
