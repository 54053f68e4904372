"""Wishes: whether one holds for a book, and what shows it."""

from presumebooks.books import Book
from presumebooks.comes import is_closed, standings_of
from presumebooks.errors import BadBook, BadStanding, BadWish
from presumebooks.kinds import first_unfit, is_list, is_tuple
from presumebooks.moves import ENDED, outcome_told
from presumebooks.runs import is_run, led_to
from presumebooks.search import Course, run_back, search
from presumebooks.standings import first, is_lone_standing

WISHES = ("honest", "kept", "quiet", "steady")
FALLS = ("down", "fall")


def check_wish(book, wish):
    """Raises an error unless these are a book and a wish."""
    if not isinstance(book, Book):
        raise BadBook("book")
    if wish not in WISHES:
        raise BadWish(wish)


def check_wishes(book, wishes):
    """Raises an error unless these are a book and a list of one or more different wishes."""
    if not isinstance(book, Book):
        raise BadBook("book")
    if not is_list(wishes) or len(wishes) == 0:
        raise BadWish(None)
    at = first_unfit(wishes, WISHES)
    if at is not None:
        raise BadWish(wishes[at])


def deeds_to_end(book, standing):
    """The least number of deeds without falls that lead to a standing in which the house is neither idle nor ready,
    None if none do.
    """
    chair, (house,) = standing
    memory, _, _, told, _, _, _ = house
    if memory in ENDED:
        return 0
    # An idle house can refuse, a ready one hear what it was told. Otherwise it must be told ahead of hearing, and
    # the chair must be where it tells: from the asking on it can decide no at once.
    if memory == "idle" or told != ():
        return 1
    if chair[0] == "new":
        return 4
    if chair[0] == "asking":
        return 3
    if outcome_told(book, chair) is not None:
        return 2
    return None


def is_broken(book, wish, standing):
    """Whether a standing of one house breaks a wish."""
    if wish == "quiet":
        return deeds_to_end(book, standing) is None
    (_, _, decided), (house,) = standing
    _, _, _, _, _, took, dropped = house
    if wish == "honest":
        return took and not decided
    if wish == "kept":
        return dropped and decided
    return took and dropped


def is_any_broken(book, wishes, standing):
    """Whether a standing of one house breaks one of these wishes."""
    return any([is_broken(book, wish, standing) for wish in wishes])


def all_hold(book, wishes):
    """Whether all these wishes hold for a book."""
    course = Course(book)
    others = [wish for wish in wishes if wish != "quiet"]
    # A standing that breaks quiet has a house that was told nothing, so no run to it has a telling.
    if len(others) < len(wishes):
        found, _ = search(first(1), course.silent_moves, lambda one: is_broken(book, "quiet", one))
        if found is not None:
            return False
    if not others:
        return True
    # Tellings and answers take away nothing that these wishes look at, and no deed but themselves.
    found, _ = search(first(1), course.eager_moves, lambda one: is_any_broken(book, others, one))
    return found is None


def breaks(book, wish, standing):
    """Whether a standing of one house breaks a wish."""
    check_wish(book, wish)
    if not is_lone_standing(standing):
        raise BadStanding("no standing of one house")
    return is_broken(book, wish, standing)


def holds(book, wish):
    """Whether a wish holds for a book."""
    check_wish(book, wish)
    return all_hold(book, [wish])


def breaker(book, wish):
    """A shortest run of one house that leads to a standing that breaks the wish, None if it holds."""
    check_wish(book, wish)
    # What all_hold looks at is much less than all that comes.
    if all_hold(book, [wish]):
        return None
    course = Course(book)
    found, came = search(first(1), course.moves, lambda one: is_broken(book, wish, one))
    return run_back(came, found)


def falls_to(book, wish):
    """The least number of falls in a run of one house to a standing that breaks the wish, None if it holds."""
    check_wish(book, wish)
    course = Course(book)
    came = {}
    waiting = [first(1)]
    falls = 0
    while waiting:
        fallen = []
        while waiting:
            standing = waiting.pop()
            if standing in came:
                continue
            came[standing] = True
            if is_broken(book, wish, standing):
                return falls
            for deed, other in course.moves(standing):
                if deed[0] in FALLS:
                    fallen.append(other)
                else:
                    waiting.append(other)
        waiting = fallen
        falls += 1
    return None


def paper(book, wish):
    """What shows whether a wish holds for a book: all that comes, or a run as breaker returns it."""
    run = breaker(book, wish)
    if run is not None:
        return ("broken", run)
    standings = standings_of(book)
    if wish == "quiet":
        return ("holds", {standing: deeds_to_end(book, standing) for standing in standings})
    return ("holds", standings)


def falls_off(course, numbers, standing):
    """Whether the number of this standing is 0 where it may be, or some deed without a fall leads to a lower one."""
    _, (house,) = standing
    number = numbers[standing]
    if number == 0:
        return house[0] in ENDED
    for deed, other in course.moves(standing):
        if deed[0] not in FALLS and numbers[other] < number:
            return True
    return False


def is_quiet_dict(book, thing):
    """Whether any value is a dict from the standings of a closed list to numbers that show that quiet holds."""
    if not isinstance(thing, dict) or not is_closed(book, list(thing)):
        return False
    for number in thing.values():
        if not isinstance(number, int) or isinstance(number, bool) or number < 0:
            return False
    course = Course(book)
    return all([falls_off(course, thing, standing) for standing in thing])


def is_holding_list(book, wish, thing):
    """Whether any value is a closed list of standings none of which breaks the wish."""
    return is_closed(book, thing) and not any([is_broken(book, wish, standing) for standing in thing])


def is_paper(book, wish, thing):
    """Whether any value shows that a wish holds for a book, or that it is broken, as paper does."""
    check_wish(book, wish)
    if not is_tuple(thing, 2):
        return False
    word, some = thing
    if word == "broken":
        return is_run(book, 1, some) and is_broken(book, wish, led_to(book, 1, some))
    if word != "holds":
        return False
    if wish == "quiet":
        return is_quiet_dict(book, some)
    return is_holding_list(book, wish, some)
