"""A desk: an office that is spoken to by lines of text."""

from presumebooks.errors import BadDeed, BadNumber, NothingDone
from presumebooks.many import is_alike
from presumebooks.office import Office
from presumebooks.texts import deed_read, number_read, read_book, run_text
from presumebooks.wishes import WISHES, breaker

NOT_UNDERSTOOD = "not understood"


def log_line(log):
    """The records of a log in a line, the safe ones marked."""
    records, safe = log
    if len(records) == 0:
        return "-"
    return " ".join([record + "!" if at < safe else record for at, record in enumerate(records)])


def wish_line(book, wish):
    """Whether a wish holds for a book, or a run that breaks it, in a line."""
    run = breaker(book, wish)
    if run is None:
        return "holds"
    return run_text(run)[:-1].replace("\n", "; ")


def doubt_line(numbers):
    """The numbers of some houses in a line."""
    if len(numbers) == 0:
        return "-"
    return " ".join([str(k) for k in numbers])


class Desk:
    """An office of the book with a text, which is told what to do, and asked, by lines."""

    def __init__(self, text, houses):
        self._office = Office(read_book(text), houses)

    def say(self, line):
        """The answer to any value as a line."""
        if not isinstance(line, str):
            return NOT_UNDERSTOOD
        words = line.split(" ")
        try:
            return self._answer(words)
        except BadDeed:
            return "error BadDeed"
        except BadNumber:
            return "error BadNumber"
        except NothingDone:
            return "error NothingDone"

    def _answer(self, words):
        """The answer to the words of a line; what cannot be done raises an error."""
        deed = deed_read(words)
        if deed is not None:
            self._office.do(deed)
            return "ok"
        if len(words) == 1:
            return self._answer_to_word(words[0])
        if len(words) == 2:
            return self._answer_to_pair(words[0], words[1])
        return NOT_UNDERSTOOD

    def _answer_to_word(self, word):
        """The answer to a line of one word that is no deed."""
        office = self._office
        memory, log, _ = office.standing[0]
        if word == "undo":
            office.undo()
            return "ok"
        if word == "chair":
            return memory
        if word == "log":
            return log_line(log)
        if word == "alike":
            return "yes" if is_alike(office.book) else "no"
        if word == "doubt":
            return doubt_line(office.doubtful())
        return NOT_UNDERSTOOD

    def _answer_to_pair(self, word, about):
        """The answer to a line of two words that is no deed."""
        if word == "wish" and about in WISHES:
            return wish_line(self._office.book, about)
        k = number_read(about)
        if word not in ("house", "log") or k is None:
            return NOT_UNDERSTOOD
        if k >= self._office.houses:
            raise BadNumber(k)
        _, houses = self._office.standing
        memory, log, _, _, _, _, _ = houses[k]
        return memory if word == "house" else log_line(log)
