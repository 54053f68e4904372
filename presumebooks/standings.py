"""Standings: what the chair and the houses know, have written and have ever done."""

from presumebooks.books import CHAIR_RECORDS, HOUSE_RECORDS, is_log_of
from presumebooks.errors import BadNumber
from presumebooks.kinds import is_number, is_tuple

MOST_HOUSES = 5
CHAIR_MEMORIES = ("new", "asking", "yes", "no", "gone")
HOUSE_MEMORIES = ("idle", "ready", "yes", "no", "empty")
# All ascending tuples of outcomes.
OUTCOME_TUPLES = ((), ("no",), ("yes",), ("no", "yes"))
EMPTY_LOG = ((), 0)


def first(houses):
    """The standing at the beginning with so many houses."""
    if not is_number(houses, 1, MOST_HOUSES):
        raise BadNumber(houses)
    chair = ("new", EMPTY_LOG, False)
    house = ("idle", EMPTY_LOG, False, (), (), False, False)
    return (chair, (house,) * houses)


def is_chair(thing):
    """Whether any value has the form of the chair in a standing."""
    if not is_tuple(thing, 3):
        return False
    memory, log, decided = thing
    return memory in CHAIR_MEMORIES and is_log_of(log, CHAIR_RECORDS) and isinstance(decided, bool)


def is_house(thing):
    """Whether any value has the form of a house in a standing."""
    if not is_tuple(thing, 7):
        return False
    memory, log, voted, told, answered, took, dropped = thing
    if memory not in HOUSE_MEMORIES or not is_log_of(log, HOUSE_RECORDS):
        return False
    if told not in OUTCOME_TUPLES or answered not in OUTCOME_TUPLES:
        return False
    return all([isinstance(flag, bool) for flag in (voted, took, dropped)])


def is_standing(thing):
    """Whether any value has the form of a standing with 1 to 5 houses."""
    if not is_tuple(thing, 2):
        return False
    chair, houses = thing
    if not isinstance(houses, tuple) or not 1 <= len(houses) <= MOST_HOUSES:
        return False
    return is_chair(chair) and all([is_house(house) for house in houses])


def is_lone_standing(thing):
    """Whether any value is a standing of one house."""
    return is_standing(thing) and len(thing[1]) == 1
