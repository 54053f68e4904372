"""Deeds: what can be done in a standing, and what stands behind it."""

from presumebooks.books import Book
from presumebooks.errors import BadBook, BadDeed, BadStanding
from presumebooks.moves import moves_at, step
from presumebooks.standings import is_standing


def check_place(book, standing):
    """Raises an error unless these are a book and a standing."""
    if not isinstance(book, Book):
        raise BadBook("book")
    if not is_standing(standing):
        raise BadStanding("no standing of 1 to 5 houses")


def deeds_at(book, standing):
    """The ascending list of all deeds that can be done."""
    check_place(book, standing)
    return sorted([deed for deed, _ in moves_at(book, standing)])


def behind(book, standing, deed):
    """The standing behind a deed."""
    check_place(book, standing)
    other = step(book, standing, deed)
    if other is None:
        raise BadDeed(0)
    return other


def may_do(book, standing, thing):
    """Whether any value is a deed that can be done."""
    check_place(book, standing)
    return step(book, standing, thing) is not None
