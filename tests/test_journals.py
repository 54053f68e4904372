"""Point 111: journal_of, first_wrong and replayed."""

import unittest
from random import Random

from presumebooks.books import Book
from presumebooks.journals import first_wrong, journal_of, replayed
from presumebooks.office import Office
from tests.model import is_fall, model_behind, model_first
from tests.samples import (
    all_books, any_values, error_of, exactly, presumed_no, presumed_yes, sample_book, spoil,
)


def drawn_journal(draw, houses, length):
    """A right journal of so many entries, with undos, its first book, and the office that did it."""
    books = draw.sample(all_books(), 3)
    office = Office(books[0], houses)
    journal = []
    while len(journal) < length:
        kind = draw.randrange(8)
        if kind == 0:
            what = ("swap", draw.choice(books))
            office.swap(what[1])
        elif kind == 1 and office.log:
            what = ("undo",)
            office.undo()
        else:
            ways = [deed for deed in office.may() if not is_fall(deed)]
            what = draw.choice(ways if ways and draw.randrange(5) else office.may())
            office.do(what)
        journal.append((what, office.standing))
    return books[0], journal, office


def plain_journal():
    """A right journal of presumed_no and two houses with entries of all kinds."""
    office = Office(presumed_no(), 2)
    journal = []
    for what in (
        ("ask",), ("vote", 0), ("swap", presumed_yes()), ("vote", 1), ("undo",), ("vote", 1), ("decide", "yes"),
        ("tell", 0), ("hear", 0, "yes"), ("undo",), ("hear", 0, "yes"), ("fall", 1, 1), ("swap", presumed_no()),
        ("undo",), ("undo",), ("down", 1),
    ):
        if what[0] == "swap":
            office.swap(what[1])
        elif what == ("undo",):
            office.undo()
        else:
            office.do(what)
        journal.append((what, office.standing))
    return journal


class JournalOf(unittest.TestCase):
    def test_of_an_office_with_deeds_and_swaps(self):
        draw = Random(1111)
        for turn in range(30):
            book, _, office = drawn_journal(draw, turn % 5 + 1, 30)
            before = (exactly(office.log), exactly(office.standing))
            journal = journal_of(office)
            self.assertIs(type(journal), list)
            self.assertEqual(exactly([what for what, _ in journal]), exactly(office.log))
            standing = model_first(turn % 5 + 1)
            for what, told in journal:
                if what[0] == "swap":
                    book = what[1]
                else:
                    standing = model_behind(book, standing, what)
                self.assertEqual(exactly(told), exactly(standing))
            self.assertEqual((exactly(office.log), exactly(office.standing)), before)

    def test_of_one_that_has_done_nothing(self):
        office = Office(sample_book(), 3)
        self.assertEqual(exactly(journal_of(office)), exactly([]))
        office.do(("ask",))
        office.undo()
        self.assertEqual(journal_of(office=office), [])

    def test_the_list_is_new(self):
        office = Office(presumed_no(), 2)
        office.do(("ask",))
        spoil(journal_of(office))
        self.assertEqual(journal_of(office), [(("ask",), office.standing)])
        self.assertEqual(office.log, [("ask",)])

    def test_within_a_block(self):
        office = Office(presumed_no(), 2)
        with office:
            office.do(("ask",))
            self.assertEqual(len(journal_of(office)), 1)
            office.do(("vote", 1))
        self.assertEqual(len(journal_of(office)), 2)


class Right(unittest.TestCase):
    def right(self, book, houses, journal, office):
        before = exactly(journal)
        self.assertIsNone(first_wrong(book, houses, journal))
        again = replayed(book, houses, journal)
        self.assertEqual(again, office)
        self.assertEqual(exactly(again.standing), exactly(office.standing))
        self.assertEqual(exactly(again.book), exactly(office.book))
        self.assertEqual(again.houses, houses)
        self.assertEqual(exactly(journal), before)

    def test_journals_of_offices(self):
        draw = Random(1112)
        for turn in range(20):
            houses = turn % 5 + 1
            book, _, office = drawn_journal(draw, houses, 25)
            self.right(book, houses, journal_of(office), office)
            self.right(book, houses, tuple(journal_of(office)), office)

    def test_each_beginning_also_with_undos(self):
        draw = Random(1113)
        for turn in range(10):
            houses = turn % 5 + 1
            book, journal, office = drawn_journal(draw, houses, 25)
            self.right(book, houses, journal, office)
            for length in range(len(journal)):
                self.assertIsNone(first_wrong(book, houses, journal[:length]))
                self.assertIsNone(first_wrong(book, houses, tuple(journal[:length])))
                standing = journal[length - 1][1] if length else model_first(houses)
                self.assertEqual(replayed(book, houses, journal[:length]).standing, standing)

    def test_no_entries(self):
        for none in ([], ()):
            self.right(sample_book(), 4, none, Office(sample_book(), 4))

    def test_the_office_goes_on_by_itself(self):
        journal = plain_journal()
        one = replayed(presumed_no(), 2, journal)
        other = replayed(houses=2, journal=journal, book=presumed_no())
        self.assertEqual(one, other)
        one.do(("forget",) if ("forget",) in one.may() else ("tell", 1))
        self.assertNotEqual(one, other)
        before = exactly(one.log)
        spoil(journal)
        self.assertEqual(exactly(one.log), before)
        while other.log:
            other.undo()
        self.assertEqual(other, Office(presumed_no(), 2))


class Wrong(unittest.TestCase):
    def wrong(self, journal, at, book=None, houses=2):
        before = exactly(journal)
        book = book or presumed_no()
        self.assertEqual(exactly(first_wrong(book, houses, journal)), exactly(at))
        self.assertEqual(exactly(error_of(replayed, book, houses, journal)), exactly(("BadJournal", at)))
        self.assertEqual(exactly(journal), before)

    def with_entry(self, at, entry):
        """The plain journal with another entry in the place of one, in front of what is right otherwise."""
        journal = plain_journal()
        return [*journal[:at], entry, *journal[at + 1 :]]

    def test_any_value_as_journal(self):
        for thing in (*any_values(), {0: plain_journal()[0]}, Office(presumed_no(), 2)):
            if not isinstance(thing, (list, tuple)) or len(thing) > 0:
                self.wrong(thing, 0)

    def test_any_value_as_entry(self):
        for thing in any_values():
            for at in range(0, 16, 3):
                self.wrong(self.with_entry(at, thing), at)
                self.wrong(tuple(self.with_entry(at, thing)), at)

    def test_any_value_as_what_is_done(self):
        for thing in any_values():
            for at in (0, 3, 11, 15):
                self.wrong(self.with_entry(at, (thing, plain_journal()[at][1])), at)

    def test_any_value_as_standing(self):
        for at, (what, standing) in enumerate(plain_journal()):
            for thing in (*any_values(), model_first(2), model_first(3), standing[0], (standing,)):
                if thing != standing:
                    self.wrong(self.with_entry(at, (what, thing)), at)

    def test_an_entry_in_a_list_and_parts_too_few_and_too_many(self):
        for at, (what, standing) in enumerate(plain_journal()):
            for entry in ([what, standing], (what,), (what, standing, standing), (), (standing, what), what, standing):
                self.wrong(self.with_entry(at, entry), at)
            for wrong in (list(what), (*what, 0), what[:-1], (what,), what[0]):
                self.wrong(self.with_entry(at, (wrong, standing)), at)

    def test_refused_deeds(self):
        for at, (what, standing) in enumerate(plain_journal()):
            refused = ("ask",) if at else ("forget",)
            for wrong in (refused, ("vote", 2), ("vote", -1), ("decide", "wait"), ("x",), ("fall", 0, 9)):
                self.wrong(self.with_entry(at, (wrong, standing)), at)

    def test_an_undo_of_nothing(self):
        self.wrong([(("undo",), model_first(2))], 0)
        journal = plain_journal()[:2]
        journal.extend([(("undo",), journal[0][1]), (("undo",), model_first(2))])
        self.assertIsNone(first_wrong(presumed_no(), 2, journal))
        self.wrong([*journal, (("undo",), model_first(2)), None], 4)
        self.wrong([*journal, (("undo", 0), model_first(2))], 4)

    def test_a_swap_of_what_is_no_book(self):
        for thing in (*any_values(), [presumed_no()], presumed_no().forced):
            if not isinstance(thing, Book):
                for at in (0, 2, 5):
                    standing = plain_journal()[at - 1][1] if at else model_first(2)
                    self.wrong(self.with_entry(at, (("swap", thing), standing)), at)
        self.wrong(self.with_entry(2, (("swap", presumed_no(), 0), plain_journal()[1][1])), 2)
        self.wrong(self.with_entry(2, (("swap",), plain_journal()[1][1])), 2)
        self.wrong(self.with_entry(2, (["swap", presumed_no()], plain_journal()[1][1])), 2)

    def test_a_standing_that_is_not_the_one_behind(self):
        journal = plain_journal()
        for at in range(1, len(journal)):
            if journal[at][1] != journal[at - 1][1]:
                self.wrong(self.with_entry(at, (journal[at][0], journal[at - 1][1])), at)
        standing = journal[2][1]
        self.wrong(self.with_entry(2, (("swap", presumed_yes()), model_first(2))), 2)
        self.assertIsNone(first_wrong(presumed_no(), 2, [*journal[:2], (("swap", sample_book()), standing)]))

    def test_bools_and_numbers_are_not_the_same(self):
        def turned(thing):
            """A value with bools in the place of the numbers 0 and 1."""
            if isinstance(thing, tuple):
                return tuple([turned(item) for item in thing])
            return bool(thing) if thing in (0, 1) and type(thing) is int else thing

        def counted(thing):
            """A value with numbers in the place of bools."""
            if isinstance(thing, tuple):
                return tuple([counted(item) for item in thing])
            return int(thing) if isinstance(thing, bool) else thing

        for at, (what, standing) in enumerate(plain_journal()):
            for change in (turned, counted):
                self.assertEqual(change(standing), standing)
                self.wrong(self.with_entry(at, (what, change(standing))), at)
            if what[0] != "swap" and exactly(turned(what)) != exactly(what):
                self.wrong(self.with_entry(at, (turned(what), standing)), at)

    def test_lists_in_the_place_of_tuples(self):
        for at, (what, (chair, houses)) in enumerate(plain_journal()):
            memory, log, decided = chair
            for wrong in (
                [chair, houses], (list(chair), houses), (chair, list(houses)), (chair, (list(houses[0]), houses[1])),
                ((memory, list(log), decided), houses), ((memory, (list(log[0]), log[1]), decided), houses),
            ):
                self.wrong(self.with_entry(at, (what, wrong)), at)

    def test_the_first_wrong_one_counts(self):
        draw = Random(1114)
        for turn in range(20):
            houses = turn % 5 + 1
            book, journal, _ = drawn_journal(draw, houses, 20)
            at = draw.randrange(20)
            broken = [*journal[:at], (("ask", 1), journal[at][1]), *journal[at + 1 :], None]
            self.wrong(broken, at, book, houses)

    def test_an_entry_left_out_or_twice(self):
        journal = [(what, standing) for what, standing in plain_journal()]
        self.wrong(journal[1:], 0)
        self.wrong([journal[0], *journal[2:]], 1)
        self.wrong([journal[0], *journal], 1)

    def test_another_book_and_other_houses(self):
        self.wrong(plain_journal(), 0, presumed_yes())
        self.wrong(plain_journal(), 0, presumed_no(), 3)

    def test_errors_in_their_order(self):
        for call in (first_wrong, replayed):
            for wrong in any_values():
                if not isinstance(wrong, Book):
                    for journal in ([], plain_journal(), None):
                        self.assertEqual(error_of(call, wrong, 2, journal), ("BadBook", "book"))
                        self.assertEqual(error_of(call, wrong, wrong, journal), ("BadBook", "book"))
                if type(wrong) is not int or not 1 <= wrong <= 5:
                    for journal in ([], plain_journal(), None):
                        name, number = error_of(call, presumed_no(), wrong, journal)
                        self.assertEqual((name, exactly(number)), ("BadNumber", exactly(wrong)))


if __name__ == "__main__":
    unittest.main()
