"""Least lots of records that must be forced, or written at all."""

from itertools import combinations

from presumebooks.books import RECORDS
from presumebooks.errors import NotHeld
from presumebooks.wishes import all_hold, check_wishes


def all_lots():
    """All lots of records, ordered by length, then ascending."""
    records = sorted(RECORDS)
    return [lot for length in range(len(RECORDS) + 1) for lot in combinations(records, length)]


def is_within(smaller, lot):
    """Whether all records of a lot are in another one."""
    return all([record in lot for record in smaller])


def least_lots(book, wishes, rest):
    """The lots with which, all others having the word rest, all wishes hold, and with no smaller lot within them."""
    found = []
    for lot in all_lots():
        # The smaller lots stand ahead; one of those that hold has a least one within it, which is found by now.
        if any([is_within(smaller, lot) for smaller in found]):
            continue
        if all_hold(book.with_forced(lot, rest), wishes):
            found.append(lot)
    return found


def least_forced(book, wishes):
    """All least lots of records that must be forced, all others being lazy, so that all wishes hold."""
    check_wishes(book, wishes)
    return least_lots(book, wishes, "lazy")


def least_written(book, wishes):
    """All least lots of records that are forced, all others not being written, so that all wishes hold."""
    check_wishes(book, wishes)
    return least_lots(book, wishes, "none")


def needless(book, wishes):
    """The ascending tuple of the records written by the book each of which alone need not be written."""
    check_wishes(book, wishes)
    if not all_hold(book, wishes):
        raise NotHeld("not all these wishes hold for the book")
    written_ones = [record for record in sorted(RECORDS) if book.word(record) != "none"]
    return tuple([record for record in written_ones if all_hold(book.with_word(record, "none"), wishes)])
