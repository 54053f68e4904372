"""Values that the tests share."""

from functools import lru_cache
from itertools import combinations, permutations, product

from presumebooks.books import Book
from presumebooks.desk import Desk
from presumebooks.errors import DealError
from presumebooks.office import Office
from tests.model import model_held

CHAIR = ("begin", "yes", "no")
HOUSE = ("agreed", "ready", "refused")
PARTS = ("begin", "yes", "no", "ready", "agreed", "refused", "answers", "presume")
WORDS = ("none", "lazy", "forced")
ALL_ANSWERS = ((), ("no",), ("yes",), ("no", "yes"))
PRESUMPTIONS = ("no", "wait", "yes")
WISHES = ("honest", "kept", "quiet", "steady")
RECORDS = tuple(sorted((*CHAIR, *HOUSE)))
# All lots of records, ordered by length, then ascending.
LOTS = [lot for length in range(7) for lot in combinations(RECORDS, length)]


def sample_book(**changed):
    """A book, by default one with each word, with some parts changed."""
    parts = {
        "begin": "none",
        "yes": "forced",
        "no": "lazy",
        "ready": "forced",
        "agreed": "lazy",
        "refused": "none",
        "answers": ["yes"],
        "presume": "no",
    }
    parts.update(changed)
    return Book(**parts)


def logs_of(records):
    """All logs of the chair, or of a house."""
    return [
        (some, safe) for length in range(4) for some in permutations(records, length) for safe in range(length + 1)
    ]


def deep(value, times):
    """A value within so many lists, tuples and dicts."""
    for at in range(times):
        value = ([value], (value, at), {"in": value})[at % 3]
    return value


def busy_office(houses=2):
    """An office that has done something."""
    office = Office(sample_book(), houses)
    office.do_all([("ask",), ("vote", 0)])
    office.swap(presumed_yes())
    return office


def sample_desk(houses=2):
    """A desk with the book that sample_book makes."""
    lines = ("begin none", "yes forced", "no lazy", "ready forced", "agreed lazy", "refused none", "answers yes")
    return Desk("".join([line + "\n" for line in (*lines, "presume no")]), houses)


def any_values():
    """Values of all kinds that "any value" tells, made anew by each call; no record, word, outcome or log."""
    return [
        0, 1, -1, 2, 10 ** 30 - 1, 1 - 10 ** 30, True, False, None,
        "", "x", "Yes", "YES", "yes ", "ye", "no\n", "none,lazy", "nobegin", "records",
        [], (), {}, [0], (0,), {0: 0}, ["begin"], ("begin",), {"begin": "lazy"}, ["yes", ["no"]],
        [[1], (True, [None])], ([1, {"a": [2]}], "b"), {"a": [1, {"b": [2]}], (1, "c"): ([3],)},
        deep("yes", 12), deep([], 11), sample_book(), [sample_book()], (sample_book(), 1), {"book": sample_book()},
        busy_office(), [busy_office()], sample_desk(), (sample_desk(), {"office": busy_office()}),
    ]


def exactly(value):
    """A form of a value that tells a list from a tuple and True from 1, at any depth."""
    if isinstance(value, (list, tuple)):
        return (type(value).__name__, tuple([exactly(item) for item in value]))
    if isinstance(value, dict):
        return ("dict", tuple([(exactly(key), exactly(value[key])) for key in value]))
    if isinstance(value, Book):
        return ("Book", tuple([exactly(getattr(value, part)) for part in PARTS]))
    if isinstance(value, Office):
        seen = (value.book, value.houses, value.standing, value.log)
        return ("Office", tuple([exactly(one) for one in seen]))
    if isinstance(value, Desk):
        lines = ("chair", "log", "doubt", *[f"{word} {k}" for word in ("house", "log") for k in range(5)])
        return ("Desk", tuple([value.say(line) for line in lines]))
    return (type(value).__name__, value)


def spoil(value):
    """Changes all lists and dicts in a value."""
    if isinstance(value, (list, tuple)):
        for item in value:
            spoil(item)
    if isinstance(value, dict):
        for key in list(value):
            spoil(value[key])
        value["spoiled"] = True
    if isinstance(value, list):
        value.append("spoiled")


def all_books():
    """All books there are, made anew by each call."""
    return [
        Book(*words, answers, presume)
        for words, answers, presume in product(product(WORDS, repeat=6), ALL_ANSWERS, PRESUMPTIONS)
    ]


def presumed_no(**changed):
    """The book that presumes no, with no record that it does not need for honest and kept."""
    parts = {"begin": "none", "yes": "forced", "no": "none", "ready": "forced", "agreed": "forced", "refused": "none"}
    return Book(**{**parts, "answers": ["yes"], "presume": "no", **changed})


def presumed_yes(**changed):
    """The book that presumes yes, with no record that it does not need for honest and kept."""
    parts = {"begin": "forced", "yes": "forced", "no": "none", "ready": "forced", "agreed": "none"}
    return Book(**{**parts, "refused": "forced", "answers": ["no"], "presume": "yes", **changed})


def nothing_presumed(**changed):
    """The book that presumes nothing, with no record that it does not need for all wishes; all is answered."""
    parts = {"begin": "forced", "yes": "forced", "no": "none", "ready": "forced", "agreed": "none"}
    return Book(**{**parts, "refused": "none", "answers": ["no", "yes"], "presume": "wait", **changed})


@lru_cache(maxsize=None)
def held_by_lots(answers, presume, rest):
    """The dict from all lots to the wishes that hold with these records forced and all others having the word rest."""
    found = {}
    for lot in LOTS:
        words = {record: "forced" if record in lot else rest for record in RECORDS}
        found[lot] = model_held(Book(**words, answers=answers, presume=presume))
    return found


def error_of(call, *passed, **named):
    """The class and the attributes of the error of the package that a call raises, as a tuple."""
    try:
        call(*passed, **named)
    except DealError as error:
        return (type(error).__name__, *vars(error).values())
    raise AssertionError("no error")
