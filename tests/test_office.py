"""Point 110: class Office."""

import unittest
from random import Random

from presumebooks.books import Book
from presumebooks.deeds import deeds_at
from presumebooks.errors import BadBook, BadDeed, DealError, NothingDone
from presumebooks.office import Office
from tests.model import deeds_by_form, is_fall, model_behind, model_first, model_moves
from tests.samples import (
    PARTS, all_books, any_values, error_of, exactly, presumed_no, presumed_yes, sample_book, sample_desk, spoil,
)

VOTED = [("ask",), ("vote", 0), ("vote", 1)]


class Oops(Exception):
    """An error that is none of the package."""


def seen(office):
    """All that is seen of an office, in a form that tells a list from a tuple and True from 1."""
    return exactly((
        office.book, office.houses, office.standing, office.log, office.may(), office.doubtful(), office.is_unlike(),
    ))


class Model:
    """What an office is to do: the rows that stand, each with the book and the standing behind it."""

    def __init__(self, book, houses):
        self.houses = houses
        self.rows = [(None, book, model_first(houses))]

    def do(self, deed):
        _, book, standing = self.rows[-1]
        self.rows.append((deed, book, model_behind(book, standing, deed)))

    def swap(self, book):
        self.rows.append((("swap", book), book, self.rows[-1][2]))

    def seen(self):
        _, book, standing = self.rows[-1]
        log = [row[0] for row in self.rows[1:]]
        ready = tuple([k for k, house in enumerate(standing[1]) if house[0] == "ready"])
        unlike = any(house[5] for house in standing[1]) and any(house[6] for house in standing[1])
        return exactly((book, self.houses, standing, log, sorted(model_moves(book, standing)), ready, unlike))


def drawn_step(draw, office, model, books):
    """Has both do the same next thing: a deed, some deeds at once, a swap or an undo."""
    kind = draw.randrange(12)
    if kind == 0:
        book = draw.choice(books)
        office.swap(book)
        model.swap(book)
    elif kind in (1, 2) and len(model.rows) > 1:
        office.undo()
        model.rows.pop()
    else:
        deeds = []
        for _ in range(draw.randrange(1, 4)):
            _, book, standing = model.rows[-1]
            ways = list(model_moves(book, standing))
            quiet = [deed for deed in ways if not is_fall(deed)]
            deeds.append(draw.choice(ways if draw.randrange(5) == 0 or not quiet else quiet))
            model.do(deeds[-1])
        if len(deeds) == 1:
            office.do(deeds[0])
        else:
            office.do_all(draw.choice([list, tuple])(deeds))


class Doing(unittest.TestCase):
    def test_against_a_second_office(self):
        draw = Random(110)
        unlike = set()
        for turn in range(40):
            houses = turn % 5 + 1
            books = draw.sample(all_books(), 4)
            office, model = Office(books[0], houses), Model(books[0], houses)
            self.assertEqual(seen(office), model.seen())
            while len(model.rows) < 30:
                drawn_step(draw, office, model, books)
                self.assertEqual(seen(office), model.seen())
                unlike.add(office.is_unlike())
            while len(model.rows) > 1:
                self.assertIsNone(office.undo())
                model.rows.pop()
                self.assertEqual(seen(office), model.seen())
            self.assertEqual(office, Office(books[0], houses))
        self.assertEqual(unlike, {False, True})

    def test_one_that_is_plain(self):
        office = Office(houses=2, book=presumed_no())
        self.assertEqual((office.book, office.houses, office.log), (presumed_no(), 2, []))
        self.assertEqual(office.standing, model_first(2))
        self.assertEqual(office.may(), [("ask",), ("fall", 0, 0), ("fall", 1, 0), ("refuse", 0), ("refuse", 1)])
        self.assertIsNone(office.do(deed=("ask",)))
        self.assertIsNone(office.do_all(deeds=[("vote", 1), ("refuse", 0)]))
        self.assertEqual(office.doubtful(), (1,))
        self.assertIs(office.is_unlike(), False)
        self.assertEqual(office.log, [("ask",), ("vote", 1), ("refuse", 0)])
        self.assertIsNone(office.swap(book=presumed_yes()))
        self.assertEqual(office.book, presumed_yes())
        self.assertEqual(office.log[-1], ("swap", presumed_yes()))
        office.do_all([("decide", "no"), ("forget",)] if ("forget",) in office.may() else [("decide", "no")])
        office.do_all([("down", 0), ("tell", 1), ("hear", 1, "yes")])
        self.assertIs(office.is_unlike(), True)
        self.assertEqual(office.doubtful(), ())

    def test_a_swap_leaves_what_is_written(self):
        office = Office(presumed_no(), 1)
        office.do_all([("ask",), ("vote", 0)])
        before = office.standing
        self.assertEqual(before[1][0][1], (("ready",), 1))
        office.swap(presumed_no(ready="none", yes="none"))
        self.assertEqual(exactly(office.standing), exactly(before))
        office.do(("decide", "yes"))
        self.assertEqual(office.standing[0][1], ((), 0))
        office.undo()
        office.undo()
        office.do(("decide", "yes"))
        self.assertEqual(office.standing[0][1], (("yes",), 1))
        self.assertEqual(office.book, presumed_no())

    def test_no_deeds(self):
        office = Office(sample_book(), 3)
        for none in ([], ()):
            self.assertIsNone(office.do_all(none))
        self.assertEqual(office.log, [])
        self.assertEqual(office, Office(sample_book(), 3))

    def test_may_is_what_can_be_done(self):
        draw = Random(111)
        office = Office(sample_book(), 3)
        for _ in range(20):
            self.assertEqual(office.may(), deeds_at(office.book, office.standing))
            for deed in deeds_by_form(3):
                other = office.copy()
                if deed in office.may():
                    other.do(deed)
                    self.assertEqual(other.log, [*office.log, deed])
                else:
                    self.assertEqual(error_of(other.do, deed), ("BadDeed", 0))
                    self.assertEqual(other, office)
            office.do(draw.choice(office.may()))


class Refusing(unittest.TestCase):
    def refused(self, office, error, call, *passed):
        """The error is raised, and nothing has changed."""
        before, standing = seen(office), office.standing
        self.assertEqual(exactly(error_of(call, *passed)), exactly(error))
        self.assertEqual(seen(office), before)
        self.assertEqual(exactly(office.standing), exactly(standing))

    def offices(self):
        """Offices at the beginning and later on."""
        later = Office(sample_book(), 2)
        later.do_all(VOTED)
        swapped = later.copy()
        swapped.swap(presumed_yes())
        return [Office(sample_book(), 1), Office(presumed_no(), 5), later, swapped]

    def test_any_value_as_a_deed(self):
        near = [["ask"], ("ask", 0), ("swap", sample_book()), ("undo",), ("vote", True), ("vote", 9)]
        for wrong in (*any_values(), *near):
            for office in self.offices():
                self.refused(office, ("BadDeed", 0), office.do, wrong)

    def test_any_value_as_deeds(self):
        for wrong in any_values():
            for office in self.offices():
                if not isinstance(wrong, (list, tuple)):
                    self.refused(office, ("BadDeed", 0), office.do_all, wrong)
                elif len(wrong) > 0:
                    self.refused(office, ("BadDeed", 0), office.do_all, wrong)

    def test_the_first_that_cannot_be_done_behind_the_ones_ahead(self):
        row = [("ask",), ("vote", 0), ("vote", 1), ("decide", "yes"), ("tell", 0), ("hear", 0, "yes"), ("fall", 1, 1)]
        for at in range(len(row) + 1):
            for wrong in (("ask",) if at else ("vote", 0), ("vote", 2), None, ["tell", 1], ("vote", False), ("undo",)):
                for kind in (list, tuple):
                    office = Office(presumed_no(), 2)
                    thing = kind([*row[:at], wrong, *row[at:]])
                    self.refused(office, ("BadDeed", at), office.do_all, thing)
        office = Office(presumed_no(), 2)
        self.refused(office, ("BadDeed", 1), office.do_all, [("ask",), ("ask",), ("ask",)])
        office.do_all(row)
        self.assertEqual(office.log, row)

    def test_swaps_to_what_is_no_book(self):
        for wrong in any_values():
            if not isinstance(wrong, Book):
                for office in self.offices():
                    self.refused(office, ("BadBook", "book"), office.swap, wrong)

    def test_nothing_done(self):
        for houses in range(1, 6):
            office = Office(sample_book(), houses)
            self.refused(office, ("NothingDone",), office.undo)
            office.do(("ask",))
            office.undo()
            self.refused(office, ("NothingDone",), office.undo)
            office.swap(presumed_yes())
            office.undo()
            self.refused(office, ("NothingDone",), office.undo)

    def test_no_office(self):
        for wrong in any_values():
            if not isinstance(wrong, Book):
                for houses in (1, 0, None):
                    self.assertEqual(error_of(Office, wrong, houses), ("BadBook", "book"))
            if type(wrong) is not int or not 1 <= wrong <= 5:
                name, number = error_of(Office, sample_book(), wrong)
                self.assertEqual((name, exactly(number)), ("BadNumber", exactly(wrong)))
        for wrong in (0, 6, -1, True):
            self.assertEqual(exactly(error_of(Office, sample_book(), wrong)), exactly(("BadNumber", wrong)))


class OwnValues(unittest.TestCase):
    def test_what_is_returned_is_the_callers_own(self):
        office = Office(presumed_no(), 2)
        office.do_all(VOTED)
        before = seen(office)
        for thing in (office.log, office.may()):
            spoil(thing)
            thing.clear()
        self.assertEqual(seen(office), before)
        self.assertIsNot(office.log, office.log)

    def test_what_is_passed_is_the_callers_own(self):
        office = Office(presumed_no(), 2)
        row = list(VOTED)
        office.do_all(row)
        self.assertEqual(row, VOTED)
        before = seen(office)
        spoil(row)
        row.clear()
        self.assertEqual(seen(office), before)


class Undoing(unittest.TestCase):
    def test_one_by_one_behind_do_all(self):
        office = Office(presumed_no(), 2)
        office.do_all(VOTED)
        office.swap(presumed_yes())
        office.do_all([("decide", "yes"), ("tell", 1)])
        whole = [*VOTED, ("swap", presumed_yes()), ("decide", "yes"), ("tell", 1)]
        for length in range(6, -1, -1):
            self.assertEqual(office.log, whole[:length])
            self.assertEqual(office.book, presumed_yes() if length > 3 else presumed_no())
            again = Office(presumed_no(), 2)
            again.do_all(whole[: min(length, 3)])
            if length > 3:
                again.swap(presumed_yes())
                again.do_all(whole[4:length])
            self.assertEqual(seen(office), seen(again))
            self.assertEqual(office, again)
            if length:
                self.assertIsNone(office.undo())
        self.assertEqual(error_of(office.undo), ("NothingDone",))


class Blocks(unittest.TestCase):
    def test_not_left_by_an_error(self):
        office = Office(presumed_no(), 2)
        with office as same:
            self.assertIs(same, office)
            same.do_all(VOTED)
            same.undo()
        self.assertEqual(office.log, VOTED[:2])
        with office:
            office.swap(presumed_yes())
        self.assertEqual(office.book, presumed_yes())

    def test_left_by_errors_of_all_kinds(self):
        for error in (Oops, ValueError, KeyError, NothingDone, KeyboardInterrupt, StopIteration):
            office = Office(presumed_no(), 2)
            office.do(("ask",))
            before = seen(office)
            raised = error("x")
            with self.assertRaises(error) as caught:
                with office:
                    office.do(("vote", 0))
                    office.swap(presumed_yes())
                    office.do(("vote", 1))
                    raise raised
            self.assertIs(caught.exception, raised)
            self.assertEqual(seen(office), before)

    def test_left_by_an_error_of_a_deed(self):
        office = Office(presumed_no(), 2)
        with self.assertRaises(BadDeed) as caught:
            with office:
                office.do(("ask",))
                office.do_all([("vote", 0), ("vote", 0)])
        self.assertEqual(caught.exception.at, 1)
        self.assertEqual(seen(office), seen(Office(presumed_no(), 2)))
        with self.assertRaises(BadBook):
            with office:
                office.do(("ask",))
                office.swap(None)
        self.assertEqual(office.log, [])

    def test_an_error_caught_within(self):
        office = Office(presumed_no(), 2)
        with office:
            office.do(("ask",))
            try:
                office.do(("ask",))
            except DealError:
                office.do(("vote", 1))
        self.assertEqual(office.log, [("ask",), ("vote", 1)])

    def test_blocks_within_blocks(self):
        office = Office(presumed_no(), 2)
        office.do(("ask",))
        with office:
            office.do(("vote", 0))
            with self.assertRaises(Oops):
                with office as same:
                    same.do(("vote", 1))
                    with office:
                        office.do(("decide", "yes"))
                    self.assertEqual(len(office.log), 4)
                    raise Oops
            self.assertEqual(office.log, [("ask",), ("vote", 0)])
            office.do(("refuse", 1))
        self.assertEqual(office.log, [("ask",), ("vote", 0), ("refuse", 1)])
        with self.assertRaises(Oops):
            with office:
                office.do(("decide", "no"))
                with office:
                    office.do(("tell", 0))
                with office:
                    office.undo()
                raise Oops
        self.assertEqual(office.log, [("ask",), ("vote", 0), ("refuse", 1)])

    def test_an_error_that_goes_through_all(self):
        office = Office(presumed_no(), 2)
        office.swap(presumed_yes())
        before = seen(office)
        with self.assertRaises(Oops):
            with office, office, office:
                office.do(("ask",))
                raise Oops
        self.assertEqual(seen(office), before)

    def test_undone_ahead_of_the_block(self):
        for error in (None, Oops):
            office = Office(presumed_no(), 2)
            office.do_all(VOTED)
            office.swap(presumed_yes())
            before = seen(office)
            try:
                with office:
                    for _ in range(3):
                        office.undo()
                    office.do_all([("refuse", 0), ("refuse", 1)])
                    if error:
                        raise error
            except Oops:
                self.assertEqual(seen(office), before)
                office.undo()
                self.assertEqual(office.log, VOTED)
                self.assertEqual(office.book, presumed_no())
            else:
                self.assertEqual(office.log, [("ask",), ("refuse", 0), ("refuse", 1)])
                self.assertEqual(office.book, presumed_no())

    def test_undone_to_the_beginning_within_a_block(self):
        office = Office(presumed_no(), 2)
        office.do_all(VOTED)
        with self.assertRaises(NothingDone):
            with office:
                for _ in range(4):
                    office.undo()
        self.assertEqual(office.log, VOTED)

    def test_against_a_second_office(self):
        draw = Random(112)
        for turn in range(12):
            books = draw.sample(all_books(), 3)
            office, model = Office(books[0], 2), Model(books[0], 2)
            self.nested(draw, office, model, books, 3)
            self.assertEqual(seen(office), model.seen())

    def nested(self, draw, office, model, books, depth):
        """Does things within blocks, some of which are left by an error."""
        for _ in range(4):
            drawn_step(draw, office, model, books)
            rows = list(model.rows)
            fails = draw.randrange(2)
            try:
                with office:
                    if depth:
                        self.nested(draw, office, model, books, depth - 1)
                    if fails:
                        raise Oops
            except Oops:
                model.rows = rows
            self.assertEqual(seen(office), model.seen())


class Tried(unittest.TestCase):
    def test_returns_what_the_work_returns(self):
        office = Office(presumed_no(), 2)

        def work(same):
            self.assertIs(same, office)
            same.do(("ask",))
            return result

        for result in ([1, [2]], None, office, False):
            self.assertIs(office.tried(work=work), result)
            self.assertEqual(office.log, [("ask",)])
            office.undo()

    def test_what_is_raised_goes_on(self):
        office = Office(presumed_no(), 2)
        office.do(("ask",))
        before = seen(office)

        def work(same):
            same.do(("vote", 0))
            same.undo()
            same.undo()
            raise raised

        for raised in (Oops("x"), BadDeed(3), KeyError("k")):
            with self.assertRaises(type(raised)) as caught:
                office.tried(work)
            self.assertIs(caught.exception, raised)
            self.assertEqual(seen(office), before)

    def test_work_within_work(self):
        office = Office(presumed_no(), 2)

        def inner(same):
            same.do(("vote", 0))
            raise Oops

        def outer(same):
            same.do(("ask",))
            with self.assertRaises(Oops):
                same.tried(inner)
            return list(same.log)

        self.assertEqual(office.tried(outer), [("ask",)])
        self.assertEqual(office.log, [("ask",)])


class Copies(unittest.TestCase):
    def test_equal_and_independent(self):
        office = Office(presumed_no(), 2)
        office.do_all(VOTED)
        office.swap(presumed_yes())
        other = office.copy()
        self.assertEqual(other, office)
        self.assertEqual(seen(other), seen(office))
        before = seen(office)
        other.do(("decide", "no"))
        other.swap(sample_book())
        self.assertEqual(seen(office), before)
        other.undo()
        other.undo()
        self.assertEqual(other, office)
        before = seen(other)
        for _ in range(4):
            office.undo()
        self.assertEqual(seen(other), before)
        self.assertNotEqual(other, office)
        for _ in range(4):
            other.undo()
        self.assertEqual(other, office)
        self.assertEqual(other.book, presumed_no())

    def test_in_no_block(self):
        office = Office(presumed_no(), 2)
        copies = []
        with self.assertRaises(Oops):
            with office:
                office.do(("ask",))
                copies.append(office.copy())
                copies[0].do(("vote", 0))
                with copies[0]:
                    copies[0].do(("vote", 1))
                raise Oops
        self.assertEqual(office.log, [])
        self.assertEqual(copies[0].log, VOTED)


class Equality(unittest.TestCase):
    def test_first_books_houses_and_logs(self):
        office = Office(presumed_no(), 2)
        self.assertEqual(office, Office(Book(*[getattr(presumed_no(), part) for part in PARTS]), 2))
        self.assertNotEqual(office, Office(presumed_no(), 3))
        self.assertNotEqual(office, Office(presumed_no(ready="lazy"), 2))
        other = Office(presumed_no(), 2)
        other.do(("ask",))
        self.assertNotEqual(office, other)
        office.do(("ask",))
        self.assertTrue(office == other)
        self.assertFalse(office != other)

    def test_the_first_book_counts_and_each_swap(self):
        one, other = Office(presumed_no(), 1), Office(presumed_yes(), 1)
        one.swap(sample_book())
        other.swap(sample_book())
        self.assertNotEqual(one, other)
        self.assertEqual(one.log, other.log)
        self.assertEqual(one.book, other.book)
        again = Office(presumed_no(), 1)
        self.assertNotEqual(one, again)
        again.swap(presumed_no())
        again.undo()
        again.swap(sample_book())
        self.assertEqual(one, again)

    def test_logs_count_and_not_the_standings_alone(self):
        one, other = Office(presumed_no(), 2), Office(presumed_no(), 2)
        one.do_all([("ask",), ("vote", 0), ("vote", 1)])
        other.do_all([("ask",), ("vote", 1), ("vote", 0)])
        self.assertEqual(one.standing, other.standing)
        self.assertNotEqual(one, other)

    def test_no_value_of_another_kind(self):
        office = Office(presumed_no(), 2)
        for other in (*any_values(), presumed_no(), sample_desk(), office.log, office.standing, (presumed_no(), 2, [])):
            self.assertFalse(office == other)
            self.assertFalse(other == office)
            self.assertTrue(office != other)

    def test_cannot_be_iterated_over(self):
        for call in (iter, list, tuple, sorted):
            with self.assertRaises(TypeError):
                call(Office(presumed_no(), 2))
        with self.assertRaises(TypeError):
            _ = ("ask",) in Office(presumed_no(), 2)


if __name__ == "__main__":
    unittest.main()
