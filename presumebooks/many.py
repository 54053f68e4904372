"""Any number of houses: whether two of them can ever end unlike."""

from presumebooks.books import Book
from presumebooks.errors import BadBook, BadNumber, NoBreak
from presumebooks.kinds import is_number
from presumebooks.moves import HOUSE_WORDS, step
from presumebooks.runs import led_to
from presumebooks.standings import first
from presumebooks.wishes import all_hold, breaker, is_broken

# What a second house does as soon as it can, in this order, beside one with which a wish is broken: it ends by the
# other outcome, and answers, so that the chair need not wait for it. (Where honest is broken the chair never decided
# yes, so it never waits for an answer to that.)
BESIDE_KEPT = (("vote", 1), ("tell", 1), ("hear", 1, "yes"), ("answer", 1, "no"), ("answer", 1, "yes"))
BESIDE_HONEST = (("refuse", 1), ("tell", 1), ("answer", 1, "no"))


def cut(book, houses, run, house):
    """The run of one house that has the deeds of the chair and of this house."""
    led_to(book, houses, run)
    if not is_number(house, 0, houses - 1):
        raise BadNumber(house)
    shorter = []
    for deed in run:
        if deed[0] not in HOUSE_WORDS:
            shorter.append(deed)
        elif deed[1] == house:
            shorter.append((deed[0], 0, *deed[2:]))
    return shorter


def is_alike(book):
    """Whether no run of any number of houses ends unlike."""
    if not isinstance(book, Book):
        raise BadBook("book")
    return all_hold(book, ["honest", "kept"])


def unlike_run(book):
    """A run of two houses that ends unlike, None if the book is alike."""
    for wish in ("honest", "kept"):
        run = breaker(book, wish)
        if run is not None:
            return spread(book, run)
    return None


def spread(book, run):
    """A run of two houses that ends unlike, which cut to house 0 is this run that breaks honest or kept."""
    standing = led_to(book, 1, run)
    if is_broken(book, "kept", standing):
        return with_second(book, run, BESIDE_KEPT)
    if is_broken(book, "honest", standing):
        return with_second(book, run, BESIDE_HONEST)
    raise NoBreak("neither honest nor kept is broken")


def with_second(book, run, beside):
    """The run with a second house, which does each of these deeds as soon as it can."""
    wanted = list(beside)
    for deed in run:
        wanted.extend([deed, *beside])
    standing = first(2)
    longer = []
    for deed in wanted:
        other = step(book, standing, deed)
        if other is not None:
            standing = other
            longer.append(deed)
    return longer
