"""Told back: what can have come about with one house, by the logs that falls of the chair and of it have left."""

from presumebooks.books import CHAIR_RECORDS, HOUSE_RECORDS, Book, are_records_of, beginnings
from presumebooks.errors import BadBook, BadLog
from presumebooks.moves import fallen_house, has_asked
from presumebooks.search import told_standings

# In the order of the triples.
PARTS = ("decided", "took", "dropped")


def triples_behind(standing):
    """What falls of both can leave of a standing: pairs of the two tuples of records left, and the triple."""
    (_, chair_log, decided), (house,) = standing
    found = []
    for chair_left in beginnings(chair_log):
        for house_left in beginnings(house[1]):
            _, _, _, _, _, took, dropped = fallen_house(house, house_left)
            found.append(((chair_left[0], house_left[0]), (decided, took, dropped)))
    return found


def triples_left(book):
    """The dict from all pairs of tuples of records that falls can leave to dicts of True from the triples."""
    found = {}
    # What was told and answered is in no log, and in no triple.
    for standing in told_standings(book):
        # A chair that has not asked cannot fall.
        if has_asked(standing[0]):
            for logs, triple in triples_behind(standing):
                found.setdefault(logs, {})[triple] = True
    return found


def may_have(book, chair_log, house_log):
    """The ascending list of the triples (decided, took, dropped) that can stand behind falls of both that have left
    these records.
    """
    if not isinstance(book, Book):
        raise BadBook("book")
    if not are_records_of(chair_log, CHAIR_RECORDS):
        raise BadLog("no records of the chair")
    if not are_records_of(house_log, HOUSE_RECORDS):
        raise BadLog("no records of a house")
    return sorted(triples_left(book).get((chair_log, house_log), {}))


def sure_of(book, chair_log, house_log):
    """The dict from the parts of the triples to True or False if all triples tell so, None otherwise."""
    triples = may_have(book, chair_log, house_log)
    told = {}
    for part in sorted(PARTS):
        at = PARTS.index(part)
        worths = sorted({triple[at] for triple in triples})
        told[part] = worths[0] if len(worths) == 1 else None
    return told


def logs_left(book):
    """The ascending list of the pairs of tuples of records that falls of both can leave."""
    if not isinstance(book, Book):
        raise BadBook("book")
    return sorted(triples_left(book))
