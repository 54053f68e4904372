"""What can come about with one house."""

from presumebooks.books import Book
from presumebooks.errors import BadBook, BadStanding
from presumebooks.kinds import is_list
from presumebooks.search import Course, run_back, search
from presumebooks.standings import first, is_lone_standing


def standings_of(book):
    """The ascending list of all standings of one house that come."""
    if not isinstance(book, Book):
        raise BadBook("book")
    course = Course(book)
    _, came = search(first(1), course.moves, lambda one: False)
    return sorted(came)


def run_to(book, standing):
    """A shortest run that leads to a standing of one house, None if it does not come."""
    if not isinstance(book, Book):
        raise BadBook("book")
    if not is_lone_standing(standing):
        raise BadStanding("no standing of one house")
    course = Course(book)
    found, came = search(first(1), course.moves, lambda one: one == standing)
    if found is None:
        return None
    return run_back(came, found)


def is_closed(book, thing):
    """Whether any value is a list of different standings of one house that has the first one, and with each one
    all that deeds lead to from there.
    """
    if not isinstance(book, Book):
        raise BadBook("book")
    if not is_list(thing) or not all([is_lone_standing(standing) for standing in thing]):
        return False
    listed = {standing: True for standing in thing}
    if len(listed) < len(thing) or first(1) not in listed:
        return False
    course = Course(book)
    for standing in thing:
        for _, other in course.moves(standing):
            if other not in listed:
                return False
    return True
