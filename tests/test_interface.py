"""The interface: names, parameters, defaults, and in which file and class each one is defined."""

import importlib
import inspect
import unittest

FUNCTIONS = {
    "books": {"written": ("book", "log", "record"), "left_by": ("log",)},
    "standings": {"first": ("houses",), "is_standing": ("thing",)},
    "deeds": {
        "deeds_at": ("book", "standing"),
        "behind": ("book", "standing", "deed"),
        "may_do": ("book", "standing", "thing"),
    },
    "runs": {
        "is_run": ("book", "houses", "thing"),
        "led_to": ("book", "houses", "run"),
        "ends": ("book", "houses", "run"),
    },
    "comes": {"standings_of": ("book",), "run_to": ("book", "standing"), "is_closed": ("book", "thing")},
    "wishes": {
        "breaks": ("book", "wish", "standing"),
        "holds": ("book", "wish"),
        "breaker": ("book", "wish"),
        "falls_to": ("book", "wish"),
        "paper": ("book", "wish"),
        "is_paper": ("book", "wish", "thing"),
    },
    "many": {
        "cut": ("book", "houses", "run", "house"),
        "is_alike": ("book",),
        "unlike_run": ("book",),
        "spread": ("book", "run"),
    },
    "lots": {
        "least_forced": ("book", "wishes"),
        "least_written": ("book", "wishes"),
        "needless": ("book", "wishes"),
    },
    "costs": {
        "costs": ("book", "outcome", "houses"),
        "cheapest": ("book", "wishes", "outcome", "houses"),
    },
}
METHODS = {
    ("books", "Book"): {
        "__init__": ("begin", "yes", "no", "ready", "agreed", "refused", "answers", "presume"),
        "word": ("record",),
        "with_word": ("record", "word"),
        "with_forced": ("lot", "rest"),
        "__eq__": ("other",),
    },
    ("errors", "BadBook"): {"__init__": ("part",)},
    ("errors", "BadRecord"): {"__init__": ("record",)},
    ("errors", "BadNumber"): {"__init__": ("number",)},
    ("errors", "BadDeed"): {"__init__": ("at",)},
    ("errors", "BadWish"): {"__init__": ("wish",)},
    ("errors", "BadJournal"): {"__init__": ("at",)},
    ("errors", "BadText"): {"__init__": ("line",)},
}


def module(name):
    """A module of the package."""
    return importlib.import_module("presumebooks." + name)


class Interface(unittest.TestCase):
    def test_functions(self):
        for file, functions in FUNCTIONS.items():
            for name, parameters in functions.items():
                thing = getattr(module(file), name)
                self.assertEqual(tuple(inspect.signature(thing).parameters), parameters, name)
                self.assertEqual(thing.__module__, "presumebooks." + file)

    def test_methods(self):
        for (file, name), methods in METHODS.items():
            thing = getattr(module(file), name)
            self.assertEqual(thing.__module__, "presumebooks." + file)
            for method, parameters in methods.items():
                found = tuple(inspect.signature(vars(thing)[method]).parameters)
                self.assertEqual(found, ("self", *parameters), f"{name}.{method}")

    def test_defaults(self):
        parameters = inspect.signature(module("books").Book).parameters
        defaults = {name: one.default for name, one in parameters.items() if one.default is not one.empty}
        self.assertEqual(defaults, {"answers": (), "presume": "no"})

    def test_init_defines_nothing(self):
        thing = importlib.import_module("presumebooks")
        files = [name for name in vars(thing) if not name.startswith("__")]
        for name in files:
            self.assertTrue(inspect.ismodule(getattr(thing, name)), name)


if __name__ == "__main__":
    unittest.main()
