"""The interface: names, parameters, defaults, and in which file and class each one is defined."""

import importlib
import inspect
import unittest

FUNCTIONS = {
    "books": {"written": ("book", "log", "record"), "left_by": ("log",)},
    "standings": {"first": ("houses",), "is_standing": ("thing",)},
    "deeds": {
        "deeds_at": ("book", "standing"),
        "behind": ("book", "standing", "deed"),
        "may_do": ("book", "standing", "thing"),
    },
    "runs": {
        "is_run": ("book", "houses", "thing"),
        "led_to": ("book", "houses", "run"),
        "ends": ("book", "houses", "run"),
    },
    "comes": {"standings_of": ("book",), "run_to": ("book", "standing"), "is_closed": ("book", "thing")},
    "wishes": {
        "breaks": ("book", "wish", "standing"),
        "holds": ("book", "wish"),
        "breaker": ("book", "wish"),
        "falls_to": ("book", "wish"),
        "paper": ("book", "wish"),
        "is_paper": ("book", "wish", "thing"),
    },
    "many": {
        "cut": ("book", "houses", "run", "house"),
        "is_alike": ("book",),
        "unlike_run": ("book",),
        "spread": ("book", "run"),
    },
    "lots": {
        "least_forced": ("book", "wishes"),
        "least_written": ("book", "wishes"),
        "needless": ("book", "wishes"),
    },
    "costs": {
        "costs": ("book", "outcome", "houses"),
        "cheapest": ("book", "wishes", "outcome", "houses"),
    },
    "faces": {
        "faces": ("book",),
        "alone": ("one", "other"),
        "run_alone": ("one", "other"),
        "presumptions": ("book", "wishes"),
    },
    "likeness": {"is_outside": ("book", "thing"), "parting": ("one", "other"), "do_alike": ("one", "other")},
    "back": {
        "may_have": ("book", "chair_log", "house_log"),
        "sure_of": ("book", "chair_log", "house_log"),
        "logs_left": ("book",),
    },
    "journals": {
        "journal_of": ("office",),
        "first_wrong": ("book", "houses", "journal"),
        "replayed": ("book", "houses", "journal"),
    },
    "texts": {"book_text": ("book",), "read_book": ("text",), "run_text": ("run",), "read_run": ("text",)},
}
METHODS = {
    ("books", "Book"): {
        "__init__": ("begin", "yes", "no", "ready", "agreed", "refused", "answers", "presume"),
        "word": ("record",),
        "with_word": ("record", "word"),
        "with_forced": ("lot", "rest"),
        "__eq__": ("other",),
    },
    ("office", "Office"): {
        "__init__": ("book", "houses"),
        "do": ("deed",),
        "do_all": ("deeds",),
        "undo": (),
        "swap": ("book",),
        "may": (),
        "doubtful": (),
        "is_unlike": (),
        "tried": ("work",),
        "copy": (),
        "__enter__": (),
        "__exit__": ("kind", "value", "trace"),
        "__eq__": ("other",),
    },
    ("desk", "Desk"): {"__init__": ("text", "houses"), "say": ("line",)},
    ("errors", "BadBook"): {"__init__": ("part",)},
    ("errors", "BadRecord"): {"__init__": ("record",)},
    ("errors", "BadNumber"): {"__init__": ("number",)},
    ("errors", "BadDeed"): {"__init__": ("at",)},
    ("errors", "BadWish"): {"__init__": ("wish",)},
    ("errors", "BadJournal"): {"__init__": ("at",)},
    ("errors", "BadText"): {"__init__": ("line",)},
}


def module(name):
    """A module of the package."""
    return importlib.import_module("presumebooks." + name)


class Interface(unittest.TestCase):
    def test_functions(self):
        for file, functions in FUNCTIONS.items():
            for name, parameters in functions.items():
                thing = getattr(module(file), name)
                self.assertEqual(tuple(inspect.signature(thing).parameters), parameters, name)
                self.assertEqual(thing.__module__, "presumebooks." + file)

    def test_methods(self):
        for (file, name), methods in METHODS.items():
            thing = getattr(module(file), name)
            self.assertEqual(thing.__module__, "presumebooks." + file)
            for method, parameters in methods.items():
                found = tuple(inspect.signature(vars(thing)[method]).parameters)
                self.assertEqual(found, ("self", *parameters), f"{name}.{method}")

    def test_defaults(self):
        parameters = inspect.signature(module("books").Book).parameters
        defaults = {name: one.default for name, one in parameters.items() if one.default is not one.empty}
        self.assertEqual(defaults, {"answers": (), "presume": "no"})

    def test_attributes_are_there_from_the_beginning(self):
        book = module("books").Book(*["lazy"] * 6)
        office = module("office").Office(book, 1)
        for thing, names in ((book, ("answers", "presume", "forced")), (office, ("book", "houses", "standing", "log"))):
            for name in names:
                self.assertTrue(hasattr(thing, name), name)

    def test_init_defines_nothing(self):
        thing = importlib.import_module("presumebooks")
        files = [name for name in vars(thing) if not name.startswith("__")]
        for name in files:
            self.assertTrue(inspect.ismodule(getattr(thing, name)), name)


if __name__ == "__main__":
    unittest.main()
