"""Point 40: standings_of, run_to and is_closed."""

import unittest

from presumebooks.books import Book
from presumebooks.comes import is_closed, run_to, standings_of
from presumebooks.runs import led_to
from presumebooks.standings import first
from tests.model import lengths, model_first, model_graph, model_moves
from tests.samples import (
    ALL_ANSWERS, PRESUMPTIONS, all_books, any_values, error_of, exactly, nothing_presumed, presumed_no, presumed_yes,
    sample_book, spoil,
)

NONE = ((), 0)
IDLE = ("idle", NONE, False, (), (), False, False)


def lazy_books():
    """All books whose records are all lazy: with these the most standings come."""
    return [
        Book("lazy", "lazy", "lazy", "lazy", "lazy", "lazy", answers, presume)
        for answers in ALL_ANSWERS for presume in PRESUMPTIONS
    ]


def some_books():
    """Books of all kinds."""
    return [*all_books()[::149], *lazy_books(), presumed_no(), presumed_yes(), nothing_presumed()]


def never_coming(book):
    """Standings of one house by their form alone that never come by a book."""
    forms = [
        (("new", (("begin",), 0), False), (IDLE,)), (("new", NONE, True), (IDLE,)),
        (("new", NONE, False), (("ready", NONE, True, (), (), False, False),)),
        (("gone", NONE, False), (("idle", NONE, False, (), ("no", "yes"), False, False),)),
        (("asking", (("yes", "no"), 2), False), (IDLE,)),
        (("no", NONE, False), (("empty", (("ready", "refused", "agreed"), 3), True, (), (), True, True),)),
    ]
    graph = model_graph(book)
    return [standing for standing in forms if standing not in graph]


def shuffled(items):
    """The items of a list in another order."""
    return [items[at * 7 % len(items)] for at in range(len(items))] if len(items) % 7 else items[::-1]


def closure_by(book, standings):
    """All standings of these and of all that deeds lead to from there, ascending."""
    found = set()
    waiting = list(standings)
    while waiting:
        standing = waiting.pop()
        if standing not in found:
            found.add(standing)
            waiting.extend(model_moves(book, standing).values())
    return sorted(found)


class StandingsOf(unittest.TestCase):
    def test_against_a_search_of_the_tests_own(self):
        for book in some_books():
            standings = standings_of(book)
            self.assertEqual(exactly(standings), exactly(sorted(model_graph(book))))

    def test_a_great_many(self):
        for book in lazy_books():
            self.assertGreater(len(standings_of(book)), 300)

    def test_ascending_and_with_the_first_one(self):
        for book in some_books()[::10]:
            standings = standings_of(book)
            self.assertIs(type(standings), list)
            self.assertEqual(standings, sorted(set(standings)))
            self.assertIn(first(1), standings)

    def test_the_list_is_new(self):
        standings = standings_of(presumed_no())
        again = list(standings)
        spoil(standings)
        self.assertEqual(standings_of(presumed_no()), again)

    def test_equal_books(self):
        one, other = sample_book(answers=["no", "yes"]), sample_book(answers=("yes", "no"))
        self.assertEqual(standings_of(one), standings_of(book=other))

    def test_no_book(self):
        for wrong in any_values():
            if not isinstance(wrong, Book):
                self.assertEqual(error_of(standings_of, wrong), ("BadBook", "book"))


class RunTo(unittest.TestCase):
    def test_as_short_as_any(self):
        for book in some_books()[::6]:
            for standing, length in list(lengths(model_graph(book), lambda deed: 1).items())[::7]:
                before = exactly(standing)
                run = run_to(book, standing)
                self.assertIs(type(run), list)
                self.assertEqual(len(run), length)
                self.assertEqual(exactly(led_to(book, 1, run)), before)
                self.assertEqual(run_to(book, standing), run)

    def test_the_first_one(self):
        for book in some_books()[::6]:
            self.assertEqual(exactly(run_to(book, first(1))), exactly([]))

    def test_one_deed(self):
        standing = (("new", NONE, False), (("empty", NONE, False, (), (), False, True),))
        self.assertEqual(run_to(standing=standing, book=sample_book()), [("fall", 0, 0)])

    def test_what_does_not_come(self):
        for book in some_books()[::12]:
            for standing in never_coming(book):
                self.assertIsNone(run_to(book, standing))

    def test_what_comes_by_another_book_alone(self):
        book, other = presumed_no(), presumed_no(ready="lazy")
        graph = model_graph(book)
        more = [standing for standing in model_graph(other) if standing not in graph]
        self.assertGreater(len(more), 5)
        for standing in more:
            self.assertIsNone(run_to(book, standing))
            self.assertEqual(led_to(other, 1, run_to(other, standing)), standing)

    def test_the_runs_are_new(self):
        standing = standings_of(presumed_no())[7]
        run = run_to(presumed_no(), standing)
        again = list(run)
        spoil(run)
        self.assertEqual(run_to(presumed_no(), standing), again)

    def test_no_standing_of_one_house(self):
        near = [
            first(2), first(5), (first(1)[0], ()), list(first(1)), (first(1)[0], [IDLE]), (("new", NONE, 0), (IDLE,)),
            (("new", ((), False), False), (IDLE,)), first(1)[0], [first(1)], (first(1),), "new", (*first(1), 0),
        ]
        for wrong in (*any_values(), *near):
            before = exactly(wrong)
            self.assertEqual(error_of(run_to, sample_book(), wrong), ("BadStanding",))
            self.assertEqual(exactly(wrong), before)

    def test_no_book_comes_first(self):
        for wrong in any_values():
            if not isinstance(wrong, Book):
                for standing in (first(1), first(2), None):
                    self.assertEqual(error_of(run_to, wrong, standing), ("BadBook", "book"))


class IsClosed(unittest.TestCase):
    def yes(self, book, thing):
        before = exactly(thing)
        self.assertIs(is_closed(book, thing), True)
        self.assertEqual(exactly(thing), before)

    def no(self, book, thing):
        before = exactly(thing)
        self.assertIs(is_closed(book, thing), False)
        self.assertEqual(exactly(thing), before)

    def test_all_that_comes(self):
        for book in some_books()[::3]:
            standings = standings_of(book)
            self.yes(book, standings)
            self.yes(book, tuple(standings))
            self.yes(book, shuffled(standings))

    def test_one_left_out(self):
        for book in some_books()[::30]:
            standings = standings_of(book)
            for at in range(len(standings)):
                self.no(book, standings[:at] + standings[at + 1 :])

    def test_one_twice(self):
        for book in some_books()[::12]:
            standings = standings_of(book)
            for at in range(0, len(standings), 9):
                self.no(book, [*standings, standings[at]])
                self.no(book, (standings[at], *standings))

    def test_one_put_in(self):
        for book in some_books()[::12]:
            standings = standings_of(book)
            for standing in never_coming(book):
                more = closure_by(book, [*standings, standing])
                if len(more) > len(standings) + 1:
                    self.no(book, [standing, *standings])
                self.yes(book, more)
                self.yes(book, shuffled(more))

    def test_one_put_in_from_which_nothing_else_is_led_to(self):
        book = presumed_no(answers=["no", "yes"], presume="wait")
        standing = (("gone", NONE, True), (("empty", NONE, False, (), (), False, False),))
        self.assertNotIn(standing, standings_of(book))
        self.assertEqual(set(model_moves(book, standing).values()), {standing})
        self.yes(book, [*standings_of(book), standing])

    def test_closed_without_the_first_one(self):
        book = presumed_no()
        standings = standings_of(book)
        standings.remove(first(1))
        self.assertEqual(closure_by(book, standings), standings)
        self.no(book, standings)
        self.no(book, [])
        self.no(book, ())

    def test_the_first_one_alone(self):
        for book in some_books()[::12]:
            self.no(book, [first(1)])

    def test_all_that_comes_by_another_book(self):
        book = presumed_no()
        self.no(presumed_no(ready="lazy"), standings_of(book))
        self.no(presumed_no(presume="yes"), standings_of(book))

    def test_values_of_other_kinds(self):
        for wrong in (*any_values(), {standing: 0 for standing in standings_of(presumed_no())}, first(1), "new"):
            self.no(presumed_no(), wrong)

    def test_items_that_are_no_standings_of_one_house(self):
        standings = standings_of(presumed_no())
        for wrong in (*any_values(), first(2), list(first(1)), (first(1)[0], [IDLE]), (("new", NONE, 0), (IDLE,))):
            for at in (0, 5, len(standings)):
                self.no(presumed_no(), [*standings[:at], wrong, *standings[at:]])

    def test_two_houses(self):
        self.no(presumed_no(), [model_first(2)])

    def test_a_bool_in_the_place_of_a_number(self):
        standings = standings_of(presumed_no())
        changed = [((memory, (log[0], bool(log[1])), decided), houses) for (memory, log, decided), houses in standings]
        self.no(presumed_no(), changed)
        self.no(presumed_no(), [*standings[:-1], changed[-1]])

    def test_no_book_comes_first(self):
        for wrong in any_values():
            if not isinstance(wrong, Book):
                for thing in ([], [first(1)], None):
                    self.assertEqual(error_of(is_closed, wrong, thing), ("BadBook", "book"))

    def test_by_name(self):
        self.assertIs(is_closed(thing=standings_of(presumed_no()), book=presumed_no()), True)


if __name__ == "__main__":
    unittest.main()
