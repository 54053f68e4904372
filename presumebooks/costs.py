"""What a book costs in a course in which nothing goes wrong."""

from presumebooks.books import OUTCOMES, Book
from presumebooks.errors import BadBook, BadNumber, BadOutcome
from presumebooks.kinds import is_number
from presumebooks.lots import all_lots
from presumebooks.wishes import all_hold, check_wishes

MOST_HOUSES = 100


def check_course(outcome, houses):
    """Raises an error unless these are an outcome and a number of houses."""
    if outcome not in OUTCOMES:
        raise BadOutcome("no outcome")
    if not is_number(houses, 1, MOST_HOUSES):
        raise BadNumber(houses)


def times_written(outcome, houses):
    """How often each record is written in the plain course, as a dict; the others are not."""
    if outcome == "yes":
        return {"begin": 1, "ready": houses, "yes": 1, "agreed": houses}
    # The last house refuses instead of voting, the others let the deal go when they hear.
    return {"begin": 1, "ready": houses - 1, "no": 1, "refused": houses}


def forced_writings(lot, outcome, houses):
    """How many records are forced in the plain course if those of this lot are."""
    times = times_written(outcome, houses)
    return sum([times.get(record, 0) for record in lot])


def costs(book, outcome, houses):
    """The pair of how many records are forced, and how many letters there are, in the plain course."""
    if not isinstance(book, Book):
        raise BadBook("book")
    check_course(outcome, houses)
    # Each house is asked, votes and is told.
    letters = 3 * houses
    if outcome in book.answers:
        letters += houses
    return (forced_writings(book.forced, outcome, houses), letters)


def cheapest(book, wishes, outcome, houses):
    """The ascending list of the lots of forced records, all others not being written, with which all wishes hold
    with the fewest forced records in the plain course, and of those the fewest records.
    """
    check_wishes(book, wishes)
    check_course(outcome, houses)
    priced = sorted([(forced_writings(one, outcome, houses), len(one), one) for one in all_lots()])
    found = []
    price = None
    for cost, length, lot in priced:
        if found and (cost, length) != price:
            break
        if all_hold(book.with_forced(lot, "none"), wishes):
            price = (cost, length)
            found.append(lot)
    return found
