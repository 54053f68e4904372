"""Journals: what an office did, entry by entry, each with the standing behind it."""

from presumebooks.errors import BadBook, BadDeed, BadJournal, NothingDone
from presumebooks.kinds import is_list, is_tuple
from presumebooks.office import Office
from presumebooks.standings import is_standing


def journal_of(office):
    """The journal of what stands in the log of an office."""
    other = office.copy()
    entries = []
    for what in reversed(office.log):
        entries.append((what, other.standing))
        other.undo()
    return entries[::-1]


def does(office, what):
    """Has the office do any value as the first part of an entry; whether it did."""
    try:
        if what == ("undo",):
            office.undo()
        elif is_tuple(what, 2) and what[0] == "swap":
            office.swap(what[1])
        else:
            office.do(what)
    except (BadBook, BadDeed, NothingDone):
        return False
    return True


def does_entry(office, entry):
    """Has the office do any value as an entry; whether it did, and the standing is the one behind it."""
    if not is_tuple(entry, 2):
        return False
    what, standing = entry
    # A standing has no number in the place of a bool, nor a bool in that of a number, though they may be equal.
    return does(office, what) and is_standing(standing) and standing == office.standing


def replay(book, houses, journal):
    """The office that did the entries of any value as journal up to the first wrong one, and the index of that one,
    None if none is.
    """
    office = Office(book, houses)
    if not is_list(journal):
        return (office, 0)
    for at, entry in enumerate(journal):
        if not does_entry(office, entry):
            return (office, at)
    return (office, None)


def first_wrong(book, houses, journal):
    """The index of the first entry of any value as journal that is wrong, 0 for no list, None if none is."""
    _, wrong = replay(book, houses, journal)
    return wrong


def replayed(book, houses, journal):
    """The office behind a journal."""
    office, wrong = replay(book, houses, journal)
    if wrong is not None:
        raise BadJournal(wrong)
    return office
