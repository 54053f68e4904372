"""Texts of books and of runs."""

from presumebooks.books import OUTCOMES, PRESUMPTIONS, RECORDS, WORDS, Book
from presumebooks.errors import BadBook, BadDeed, BadText
from presumebooks.kinds import is_list, is_number
from presumebooks.standings import OUTCOME_TUPLES

# What stands behind the word of each deed, by its form.
FORMS = {
    "answer": ("number", "outcome"),
    "ask": (),
    "clear": ("number",),
    "decide": ("outcome",),
    "down": ("number",),
    "fall": ("number", "number"),
    "forget": (),
    "hear": ("number", "outcome"),
    "refuse": ("number",),
    "tell": ("number",),
    "vote": ("number",),
}
HIGHEST = 99


def book_line_choices():
    """For each line of the text of a book the list of all that can stand in it, as lists of words."""
    choices = [[[record, word] for word in WORDS] for record in RECORDS]
    choices.append([["answers", *outcomes] for outcomes in OUTCOME_TUPLES])
    choices.append([["presume", presume] for presume in PRESUMPTIONS])
    return choices


def book_text(book):
    """The text of a book."""
    if not isinstance(book, Book):
        raise BadBook("book")
    lines = [f"{record} {book.word(record)}" for record in RECORDS]
    lines.append(" ".join(["answers", *book.answers]))
    lines.append(f"presume {book.presume}")
    return "".join([line + "\n" for line in lines])


def split_lines(text):
    """The lines of any value as text, each with its line feed if it is ended."""
    if not isinstance(text, str):
        raise BadText(0)
    *ended, rest = text.split("\n")
    lines = [line + "\n" for line in ended]
    if rest != "":
        lines.append(rest)
    return lines


def words_of(line):
    """The words of a line, None if it is not ended."""
    if not line.endswith("\n"):
        return None
    return line[:-1].split(" ")


def read_book(text):
    """The book with exactly this text."""
    choices = book_line_choices()
    read = []
    for at, line in enumerate(split_lines(text)):
        words = words_of(line)
        if at >= len(choices) or words not in choices[at]:
            raise BadText(at)
        read.append(words[1:])
    if len(read) < len(choices):
        raise BadText(len(read))
    *of_records, answers, of_presume = read
    words = [row[0] for row in of_records]
    presume = of_presume[0]
    return Book(*words, answers, presume)


def is_of_form(thing):
    """Whether any value is a deed by its form, with numbers up to the highest one."""
    if not isinstance(thing, tuple) or len(thing) == 0 or not isinstance(thing[0], str) or thing[0] not in FORMS:
        return False
    form = FORMS[thing[0]]
    if len(thing) != len(form) + 1:
        return False
    for kind, part in zip(form, thing[1:]):
        if kind == "number" and not is_number(part, 0, HIGHEST):
            return False
        if kind == "outcome" and part not in OUTCOMES:
            return False
    return True


def number_read(word):
    """The number, up to the highest one, that is written by a word, None if none is."""
    for number in range(HIGHEST + 1):
        if word == str(number):
            return number
    return None


def part_read(word):
    """What a word behind the first one of the line of a deed means."""
    number = number_read(word)
    if number is None:
        return word
    return number


def deed_read(words):
    """The deed with these words, None if there is none by its form."""
    deed = (words[0], *[part_read(word) for word in words[1:]])
    if not is_of_form(deed):
        return None
    return deed


def run_text(run):
    """The text of a list of deeds by their form."""
    if not is_list(run):
        raise BadDeed(0)
    lines = []
    for at, deed in enumerate(run):
        if not is_of_form(deed):
            raise BadDeed(at)
        lines.append(" ".join([str(part) for part in deed]) + "\n")
    return "".join(lines)


def read_run(text):
    """The list of deeds with exactly this text."""
    run = []
    for at, line in enumerate(split_lines(text)):
        words = words_of(line)
        deed = None if words is None else deed_read(words)
        if deed is None:
            raise BadText(at)
        run.append(deed)
    return run
