"""Runs: deeds that can be done one after the other from the beginning on."""

from presumebooks.books import Book
from presumebooks.errors import BadBook, BadDeed
from presumebooks.kinds import is_list
from presumebooks.moves import step
from presumebooks.standings import first


def walk(book, houses, thing):
    """What any value as a run leads to: the standing behind all deeds that could be done, and the index of the
    first item that could not, None if all could.
    """
    standing = first(houses)
    if not is_list(thing):
        return (standing, 0)
    for at, deed in enumerate(thing):
        other = step(book, standing, deed)
        if other is None:
            return (standing, at)
        standing = other
    return (standing, None)


def is_run(book, houses, thing):
    """Whether any value is a run of so many houses."""
    if not isinstance(book, Book):
        raise BadBook("book")
    _, wrong = walk(book, houses, thing)
    return wrong is None


def led_to(book, houses, run):
    """The standing behind a run."""
    if not isinstance(book, Book):
        raise BadBook("book")
    standing, wrong = walk(book, houses, run)
    if wrong is not None:
        raise BadDeed(wrong)
    return standing


def ends(book, houses, run):
    """The list with the pair (took, dropped) of each house behind a run."""
    _, last = led_to(book, houses, run)
    return [(took, dropped) for _, _, _, _, _, took, dropped in last]
