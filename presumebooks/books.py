"""Books, which tell how each record is written, and the logs that records are written into."""

from presumebooks.errors import BadBook, BadLog, BadRecord
from presumebooks.kinds import first_unfit, is_list, is_number, is_tuple

CHAIR_RECORDS = ("begin", "yes", "no")
HOUSE_RECORDS = ("ready", "agreed", "refused")
# In the order in which a book has them.
RECORDS = ("begin", "yes", "no", "ready", "agreed", "refused")
WORDS = ("none", "lazy", "forced")
# Ascending.
OUTCOMES = ("no", "yes")
PRESUMPTIONS = ("no", "wait", "yes")


def wrong_part(words, answers, presume):
    """The first part of a book that is not as told, None if all are; words is a dict from the records."""
    for record in RECORDS:
        if words[record] not in WORDS:
            return record
    if not is_list(answers) or first_unfit(answers, OUTCOMES) is not None:
        return "answers"
    if presume not in PRESUMPTIONS:
        return "presume"
    return None


class Book:
    """How each of the six records is written, which outcomes are answered, and what is presumed."""

    def __init__(self, begin, yes, no, ready, agreed, refused, answers=(), presume="no"):
        words = {"begin": begin, "yes": yes, "no": no, "ready": ready, "agreed": agreed, "refused": refused}
        part = wrong_part(words, answers, presume)
        if part is not None:
            raise BadBook(part)
        self.begin = begin
        self.yes = yes
        self.no = no
        self.ready = ready
        self.agreed = agreed
        self.refused = refused
        self.answers = tuple([outcome for outcome in OUTCOMES if outcome in answers])
        self.presume = presume
        self.forced = tuple(sorted([record for record in RECORDS if words[record] == "forced"]))
        self._words = words

    def __eq__(self, other):
        return (
            isinstance(other, Book)
            and self.begin == other.begin
            and self.yes == other.yes
            and self.no == other.no
            and self.ready == other.ready
            and self.agreed == other.agreed
            and self.refused == other.refused
            and self.answers == other.answers
            and self.presume == other.presume
        )

    def word(self, record):
        """The word of a record."""
        if record not in RECORDS:
            raise BadRecord(record)
        return self._words[record]

    def with_word(self, record, word):
        """The book with this word of a record."""
        if record not in RECORDS:
            raise BadRecord(record)
        # A wrong word needs no check here: the new book names this record for it, all other parts being right.
        words = [word if one == record else self._words[one] for one in RECORDS]
        return Book(*words, self.answers, self.presume)

    def with_forced(self, lot, rest):
        """The book whose records of a lot are forced, all others having the word rest."""
        if not is_list(lot):
            raise BadRecord(None)
        at = first_unfit(lot, RECORDS)
        if at is not None:
            raise BadRecord(lot[at])
        if rest not in ("none", "lazy"):
            raise BadBook("rest")
        words = ["forced" if one in lot else rest for one in RECORDS]
        return Book(*words, self.answers, self.presume)


def check_pair(one, other):
    """Raises an error unless these are two books."""
    if not isinstance(one, Book):
        raise BadBook("one")
    if not isinstance(other, Book):
        raise BadBook("other")


def are_records_of(thing, choices):
    """Whether any value is a tuple of different records that are all among the choices."""
    return isinstance(thing, tuple) and first_unfit(thing, choices) is None


def is_log_of(thing, choices):
    """Whether any value is a log of records that are all among the choices."""
    if not is_tuple(thing, 2):
        return False
    records, safe = thing
    return are_records_of(records, choices) and is_number(safe, 0, len(records))


def is_log(thing):
    """Whether any value is a log of the chair, or of a house."""
    return is_log_of(thing, CHAIR_RECORDS) or is_log_of(thing, HOUSE_RECORDS)


def fits(log, record):
    """Whether any value is a record that can stand in this log: the empty one may be of the chair or of a house."""
    if record in CHAIR_RECORDS:
        return is_log_of(log, CHAIR_RECORDS)
    return record in HOUSE_RECORDS and is_log_of(log, HOUSE_RECORDS)


def log_behind(word, log, record):
    """The log behind the writing of a record by its word."""
    records, safe = log
    if word == "none" or record in records:
        return log
    longer = (*records, record)
    if word == "forced":
        safe = len(longer)
    return (longer, safe)


def written(book, log, record):
    """The log behind the writing of a record by a book."""
    if not isinstance(book, Book):
        raise BadBook("book")
    if not is_log(log):
        raise BadLog("no log of the chair or of a house")
    if not fits(log, record):
        raise BadRecord(record)
    return log_behind(book.word(record), log, record)


def beginnings(log):
    """All logs that a fall can leave of a log, ascending."""
    records, safe = log
    return [(records[:left], left) for left in range(safe, len(records) + 1)]


def left_by(log):
    """The ascending list of all logs that a fall can leave."""
    if not is_log(log):
        raise BadLog("no log of the chair or of a house")
    return beginnings(log)
