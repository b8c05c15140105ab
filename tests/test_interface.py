"""The interface: every name under its module, with its arguments; and what point 2 says of the whole program."""

import ast
import importlib
import inspect
import pathlib
import unittest

from pairsayings.errors import SayingError

ERRORS = """SayingError NoSaying NotClosed NoThing NoText NoThings NoWeights NoChance NoPart NoFacts NoNumber
    HasFunctions NotHeld NotLike NoGiven NoTie OtherTongue NoMark TooMany NoSaid NoUndo NoStep NoLine NoTongue NoWorld
    NoName""".split()
FIELDS = {"NoTongue": "word", "NoWorld": "word", "NoName": "name"}
FUNCTIONS = {
    "sayings": {"free": "tongue saying"},
    "worlds": {"holds": "world saying", "holds_at": "world saying x y"},
    "texts": {"saying_text": "tongue saying", "read_saying": "tongue text"},
    "counting": {"count": "tongue saying things", "weight": "tongue saying things weights"},
    "chances": {
        "chance": "tongue saying given things weights", "row": "tongue saying part things weights",
        "mean": "tongue part given things weights", "spread": "tongue part given things weights",
        "mean_pairs": "tongue link given things weights",
    },
    "told": {
        "weight_told": "tongue saying things weights facts",
        "chance_told": "tongue saying given things weights facts",
    },
    "numbers": {"world_row": "world", "world_at": "tongue saying things number", "world_number": "world saying"},
    "copies": {"like": "world saying one other", "grown": "world saying one other things"},
    "sizes": {"sizes": "tongue saying", "check_from": "tongue saying thing"},
    "follow": {
        "parting": "tongue one other", "follows": "tongue given saying", "least_given": "tongue given saying",
        "check_parting": "tongue one other thing", "check_follows": "tongue given saying thing",
    },
    "changes": {
        "exchanged": "tongue saying", "inward": "tongue saying", "turned": "tongue saying tie",
        "renamed": "tongue saying other", "alone": "tongue saying mark", "kept": "world mark",
    },
}
CLASSES = {
    "tongues": ("Tongue", "marks ties functions", {}),
    "worlds": ("World", "tongue things marks ties", {}),
    "halls": ("Hall", "tongue", {
        "say": "saying", "drop": "index", "weigh": "name fraction", "said": "", "scales": "", "language": "",
        "ask": "saying", "chance": "saying things", "back": "", "depth": "", "trial": "steps",
    }),
    "desk": ("Desk", "", {"run": "line"}),
}


def module(name):
    return importlib.import_module("pairsayings." + name)


def parameters(function):
    return list(inspect.signature(function).parameters)


def defined_in(name, kind):
    """The names that the file of a module defines at its top."""
    tree = ast.parse(inspect.getsource(module(name)))
    return [node.name for node in tree.body if isinstance(node, kind)]


class TestInterface(unittest.TestCase):
    def test_functions(self):
        for name, functions in FUNCTIONS.items():
            for function, told in functions.items():
                self.assertIn(function, defined_in(name, ast.FunctionDef))
                self.assertEqual(parameters(getattr(module(name), function)), told.split(), function)

    def test_classes(self):
        for name, (told, arguments, methods) in CLASSES.items():
            self.assertIn(told, defined_in(name, ast.ClassDef))
            made = getattr(module(name), told)
            self.assertEqual(parameters(made), arguments.split())
            self.assertEqual(made.__bases__, (object,))
            for method, parts in methods.items():
                self.assertIn(method, vars(made))
                self.assertEqual(parameters(vars(made)[method]), ["self", *parts.split()], method)

    def test_errors(self):
        self.assertEqual(sorted(defined_in("errors", ast.ClassDef)), sorted(ERRORS))
        self.assertEqual(SayingError.__bases__, (ValueError,))
        for name in ERRORS[1:]:
            error = getattr(module("errors"), name)
            self.assertEqual(error.__bases__, (SayingError,))
            self.assertEqual(parameters(error), [FIELDS[name]] if name in FIELDS else [])

    def test_no_other_error_is_defined(self):
        folder = pathlib.Path(module("errors").__file__).parent
        for path in folder.glob("*.py"):
            if path.stem not in ("errors", "__init__"):
                classes = [getattr(module(path.stem), name) for name in defined_in(path.stem, ast.ClassDef)]
                self.assertFalse([one for one in classes if issubclass(one, BaseException)], path)


if __name__ == "__main__":
    unittest.main()
