"""Values that the tests share."""

from itertools import permutations

from presumebooks.books import Book

CHAIR = ("begin", "yes", "no")
HOUSE = ("agreed", "ready", "refused")
PARTS = ("begin", "yes", "no", "ready", "agreed", "refused", "answers", "presume")
WORDS = ("none", "lazy", "forced")


def sample_book(**changed):
    """A book, by default one with each word, with some parts changed."""
    parts = {
        "begin": "none",
        "yes": "forced",
        "no": "lazy",
        "ready": "forced",
        "agreed": "lazy",
        "refused": "none",
        "answers": ["yes"],
        "presume": "no",
    }
    parts.update(changed)
    return Book(**parts)


def logs_of(records):
    """All logs of the chair, or of a house."""
    return [
        (some, safe) for length in range(4) for some in permutations(records, length) for safe in range(length + 1)
    ]


def deep(value, times):
    """A value within so many lists, tuples and dicts."""
    for at in range(times):
        value = ([value], (value, at), {"in": value})[at % 3]
    return value


def any_values():
    """Values of all kinds that "any value" tells, made anew by each call; no record, word, outcome or log."""
    return [
        0, 1, -1, 2, 10 ** 30 - 1, 1 - 10 ** 30, True, False, None,
        "", "x", "Yes", "YES", "yes ", "ye", "no\n", "none,lazy", "nobegin", "records",
        [], (), {}, [0], (0,), {0: 0}, ["begin"], ("begin",), {"begin": "lazy"}, ["yes", ["no"]],
        [[1], (True, [None])], ([1, {"a": [2]}], "b"), {"a": [1, {"b": [2]}], (1, "c"): ([3],)},
        deep("yes", 12), deep([], 11), sample_book(), [sample_book()], (sample_book(), 1), {"book": sample_book()},
    ]


def exactly(value):
    """A form of a value that tells a list from a tuple and True from 1, at any depth."""
    if isinstance(value, (list, tuple)):
        return (type(value).__name__, tuple([exactly(item) for item in value]))
    if isinstance(value, dict):
        return ("dict", tuple([(exactly(key), exactly(value[key])) for key in value]))
    if isinstance(value, Book):
        return ("Book", tuple([exactly(getattr(value, part)) for part in PARTS]))
    return (type(value).__name__, value)


def spoil(value):
    """Changes all lists and dicts in a value."""
    if isinstance(value, (list, tuple)):
        for item in value:
            spoil(item)
    if isinstance(value, dict):
        for key in list(value):
            spoil(value[key])
        value["spoiled"] = True
    if isinstance(value, list):
        value.append("spoiled")
