"""Faces: what can be seen of a standing of one house, the logs and the letters left out."""

from presumebooks.books import PRESUMPTIONS, RECORDS, Book, check_pair
from presumebooks.errors import BadBook
from presumebooks.search import Course, run_back, search, told_standings
from presumebooks.standings import first
from presumebooks.wishes import all_hold, check_wishes


def face_of(standing):
    """The face of a standing of one house."""
    (chair_memory, _, decided), (house,) = standing
    house_memory, _, _, _, _, took, dropped = house
    return (chair_memory, house_memory, decided, took, dropped)


def faces(book):
    """The ascending list of the faces of all standings of one house that come."""
    if not isinstance(book, Book):
        raise BadBook("book")
    # What was told and answered is no part of a face.
    return sorted({face_of(standing) for standing in told_standings(book)})


def alone(one, other):
    """The ascending list of the faces that come by the first book and not by the second one."""
    check_pair(one, other)
    known = {face: True for face in faces(other)}
    return [face for face in faces(one) if face not in known]


def run_alone(one, other):
    """A shortest run of one house by the first book to a standing with a face that is alone, None if none is."""
    wanted = {face: True for face in alone(one, other)}
    if len(wanted) == 0:
        return None
    course = Course(one)
    found, came = search(first(1), course.moves, lambda standing: face_of(standing) in wanted)
    return run_back(came, found)


def presumptions(book, wishes):
    """The ascending list of the words for presume with which all wishes hold for the book."""
    check_wishes(book, wishes)
    words = [book.word(record) for record in RECORDS]
    return [presume for presume in PRESUMPTIONS if all_hold(Book(*words, book.answers, presume), wishes)]
