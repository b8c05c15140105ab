"""Texts: sayings written out, and read again."""

from pairsayings.errors import NoText
from pairsayings.sayings import BINDERS, MOST_DEEP, MOST_TUPLES, NAMES, need_saying
from pairsayings.tongues import LETTERS

JOINTS = ("and", "or")


def saying_text(tongue, saying):
    """The text of a saying of the tongue; NoSaying() for anything else."""
    need_saying(tongue, saying)
    return text_of(saying)


def text_of(saying):
    """The text of what is known to be a saying."""
    word = saying[0]
    if word == "true":
        return word
    if word == "same":
        return saying[1] + "=" + saying[2]
    if word == "not":
        return "not " + text_of(saying[1])
    if word in JOINTS:
        return "(" + text_of(saying[1]) + " " + word + " " + text_of(saying[2]) + ")"
    if word in BINDERS:
        return word + " " + saying[1] + " " + text_of(saying[2])
    return saying[1] + "(" + ",".join(saying[2:]) + ")"


def read_saying(tongue, text):
    """The saying of the tongue with this text; NoText() for anything else."""
    if not isinstance(text, str):
        raise NoText()
    reader = Reader(tongue, text)
    saying = reader.read(1)
    reader.need_end()
    return saying


class Reader:
    """Reads a text from its first sign on; each method takes what it reads, or raises NoText()."""

    def __init__(self, tongue, text):
        self.tongue = tongue
        self.text = text
        self.at = 0
        self.tuples = 0

    def read(self, deep):
        """Read a saying that stands so deep in the whole one."""
        self.tuples += 1
        # Asked for here, so that a text of any length is left as soon as it says too much.
        if deep > MOST_DEEP or self.tuples > MOST_TUPLES:
            raise NoText()
        if self.text.startswith("(", self.at):
            return self.read_joint(deep)
        word = self.read_word()
        if word == "true":
            return (word,)
        if word == "not":
            self.take(" ")
            return (word, self.read(deep + 1))
        if word in BINDERS:
            self.take(" ")
            name = self.read_name()
            self.take(" ")
            return (word, name, self.read(deep + 1))
        return self.read_atom(word)

    def read_joint(self, deep):
        """Read two sayings in parentheses."""
        self.take("(")
        one = self.read(deep + 1)
        self.take(" ")
        word = self.read_word()
        if word not in JOINTS:
            raise NoText()
        self.take(" ")
        other = self.read(deep + 1)
        self.take(")")
        return (word, one, other)

    def read_atom(self, word):
        """Read what stands behind a name: of a thing, a mark or a tie."""
        if word in NAMES:
            self.take("=")
            return ("same", word, self.read_name())
        self.take("(")
        if word in self.tongue.marks:
            saying = ("mark", word, self.read_name())
        else:
            saying = self.read_tie(word)
        self.take(")")
        return saying

    def read_tie(self, word):
        """Read the two names of things behind the name of a tie."""
        if word not in self.tongue.ties:
            raise NoText()
        one = self.read_name()
        self.take(",")
        return ("tie", word, one, self.read_name())

    def read_name(self):
        """Read the name of a thing."""
        word = self.read_word()
        if word not in NAMES:
            raise NoText()
        return word

    def read_word(self):
        """Read all letters that stand here, none as well."""
        start = self.at
        while self.at < len(self.text) and self.text[self.at] in LETTERS:
            self.at += 1
        return self.text[start:self.at]

    def take(self, sign):
        """Read just this sign."""
        if not self.text.startswith(sign, self.at):
            raise NoText()
        self.at += 1

    def need_end(self):
        """Raise NoText() if something is left."""
        if self.at != len(self.text):
            raise NoText()
