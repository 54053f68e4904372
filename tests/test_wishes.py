"""Point 50: breaks, holds, breaker, falls_to, paper and is_paper."""

import unittest
from itertools import product

from presumebooks.books import Book
from presumebooks.comes import run_to, standings_of
from presumebooks.runs import is_run, led_to
from presumebooks.standings import first
from presumebooks.wishes import breaker, breaks, falls_to, holds, is_paper, paper
from tests.model import (
    deeds_to_quiet, is_fall, lengths, model_breakers, model_graph, model_moves, model_run,
)
from tests.samples import (
    ALL_ANSWERS, CHAIR, HOUSE, PRESUMPTIONS, WISHES, all_books, any_values, error_of, exactly, logs_of,
    nothing_presumed, presumed_no, presumed_yes, sample_book, spoil,
)

NONE = ((), 0)
KNOWN = {"no": presumed_no, "yes": presumed_yes, "wait": nothing_presumed}
# The wishes that the known books lose if one of their forced records is lazy.
LOST = {
    ("no", "yes"): ("kept", "steady"), ("no", "ready"): ("kept",), ("no", "agreed"): ("kept", "steady"),
    ("yes", "begin"): ("honest", "steady"), ("yes", "yes"): ("kept", "steady"), ("yes", "ready"): ("kept", "steady"),
    ("yes", "refused"): ("honest", "steady"),
    ("wait", "begin"): ("quiet",), ("wait", "ready"): ("kept", "steady"), ("wait", "yes"): ("kept", "steady"),
}


def some_books():
    """Books of all kinds, for which wishes hold and are broken."""
    known = [make() for make in KNOWN.values()]
    lazy = [KNOWN[word](**{record: "lazy"}) for word, record in LOST]
    return [*all_books()[3::211], *known, *lazy]


def standings_by_form(many):
    """So many standings of one house by their form alone, most of which never come."""
    chairs = list(product(("new", "asking", "yes", "no", "gone"), logs_of(CHAIR), (False, True)))
    bools = (False, True)
    houses = list(product(
        ("idle", "ready", "yes", "no", "empty"), logs_of(HOUSE), bools, ALL_ANSWERS, ALL_ANSWERS, bools, bools
    ))
    return [(chairs[at * 101 % len(chairs)], (houses[at * 7919 % len(houses)],)) for at in range(many)]


def model_breaks(book, wish, standing):
    """Whether a standing breaks a wish, by a search of the test's own from there on."""
    (_, _, decided), ((_, _, _, _, _, took, dropped),) = standing
    if wish != "quiet":
        return {"honest": took and not decided, "kept": dropped and decided, "steady": took and dropped}[wish]
    seen, waiting = set(), [standing]
    while waiting:
        one = waiting.pop()
        if one[1][0][0] not in ("idle", "ready"):
            return False
        if one not in seen:
            seen.add(one)
            waiting.extend([other for deed, other in model_moves(book, one).items() if not is_fall(deed)])
    return True


class Breaks(unittest.TestCase):
    def test_standings_that_come(self):
        for book in some_books()[::3]:
            graph = model_graph(book)
            broken = model_breakers(graph)
            for wish, standing in product(WISHES, list(graph)[::3]):
                before = exactly(standing)
                self.assertIs(breaks(book, wish, standing), standing in broken[wish])
                self.assertEqual(exactly(standing), before)

    def test_standings_by_their_form_alone(self):
        books = all_books()
        seen = {wish: 0 for wish in WISHES}
        for at, standing in enumerate(standings_by_form(4000)):
            for wish in WISHES:
                told = model_breaks(books[at * 577 % len(books)], wish, standing)
                self.assertIs(breaks(books[at * 577 % len(books)], wish, standing), told)
                seen[wish] += told
        self.assertGreater(min(seen.values()), 10)

    def test_honest_kept_and_steady(self):
        for decided, took, dropped in product((False, True), repeat=3):
            standing = (("gone", NONE, decided), (("empty", NONE, True, (), (), took, dropped),))
            self.assertIs(breaks(sample_book(), "honest", standing), took and not decided)
            self.assertIs(breaks(sample_book(), "kept", standing), dropped and decided)
            self.assertIs(breaks(sample_book(), "steady", standing), took and dropped)
            self.assertIs(breaks(sample_book(), "quiet", standing), False)

    def test_quiet(self):
        chairs = ("new", "asking", "yes", "no", "gone")
        for memory, house, told, presume in product(chairs, ("idle", "ready"), ALL_ANSWERS, PRESUMPTIONS):
            standing = ((memory, NONE, False), ((house, NONE, True, told, (), False, False),))
            stuck = memory == "gone" and house == "ready" and told == () and presume == "wait"
            self.assertIs(breaks(sample_book(presume=presume), "quiet", standing), stuck)

    def test_by_name(self):
        self.assertIs(breaks(standing=first(1), wish="quiet", book=sample_book()), False)

    def test_no_standing_of_one_house_comes_last(self):
        for wrong in (*any_values(), first(2), list(first(1)), (first(1)[0], list(first(1)[1]))):
            for wish in WISHES:
                self.assertEqual(error_of(breaks, sample_book(), wish, wrong), ("BadStanding",))
            self.assertEqual(error_of(breaks, sample_book(), "wish", wrong), ("BadWish", "wish"))
            self.assertEqual(error_of(breaks, "book", "wish", wrong), ("BadBook", "book"))


class Wrong(unittest.TestCase):
    def test_no_wish(self):
        for wrong in (*any_values(), "Honest", "honest ", ["kept"], ("quiet",), "alike"):
            for function, rest in (
                (breaks, (first(1),)), (breaks, (None,)), (holds, ()), (breaker, ()), (falls_to, ()), (paper, ()),
                (is_paper, (("holds", []),)), (is_paper, (None,)),
            ):
                told = error_of(function, sample_book(), wrong, *rest)
                self.assertEqual(exactly(told), exactly(("BadWish", wrong)))

    def test_no_book_comes_first(self):
        for wrong in any_values():
            if not isinstance(wrong, Book):
                for wish in ("kept", None):
                    for function, rest in (
                        (breaks, (None,)), (holds, ()), (breaker, ()), (falls_to, ()), (paper, ()), (is_paper, (0,))
                    ):
                        self.assertEqual(error_of(function, wrong, wish, *rest), ("BadBook", "book"))


class Holds(unittest.TestCase):
    def test_against_a_search_of_the_tests_own(self):
        for book in some_books():
            broken = model_breakers(model_graph(book))
            for wish in WISHES:
                self.assertIs(holds(book, wish), not broken[wish])

    def test_the_known_books(self):
        for make, wish in product(KNOWN.values(), WISHES):
            self.assertIs(holds(make(), wish), True)

    def test_the_known_books_with_one_record_lazy(self):
        for (word, record), lost in LOST.items():
            for wish in WISHES:
                self.assertIs(holds(KNOWN[word](**{record: "lazy"}), wish), wish not in lost, (word, record, wish))

    def test_nothing_but_lazy_records(self):
        words = ("lazy",) * 6
        for presume, held in (("no", ("honest", "quiet")), ("wait", ("honest",)), ("yes", ("quiet",))):
            for wish in WISHES:
                self.assertIs(holds(Book(*words, ["no", "yes"], presume), wish), wish in held, (presume, wish))

    def test_by_name(self):
        self.assertIs(holds(wish="kept", book=presumed_no()), True)


class Breaker(unittest.TestCase):
    def test_as_short_as_any(self):
        for book in some_books():
            graph = model_graph(book)
            broken = model_breakers(graph)
            length = lengths(graph, lambda deed: 1)
            for wish in WISHES:
                run = breaker(book, wish)
                if not broken[wish]:
                    self.assertIsNone(run)
                    continue
                self.assertIs(type(run), list)
                self.assertIn(led_to(book, 1, run), broken[wish])
                self.assertEqual(len(run), min([length[standing] for standing in broken[wish]]))

    def test_one_that_is_plain(self):
        book = presumed_no(ready="lazy")
        run = breaker(wish="kept", book=book)
        self.assertEqual(len(run), 4)
        self.assertEqual(sorted(run), [("ask",), ("decide", "yes"), ("fall", 0, 0), ("vote", 0)])

    def test_equal_arguments_give_equal_results(self):
        for wish in WISHES:
            runs = [breaker(sample_book(answers=answers), wish) for answers in (["no", "yes"], ("yes", "no"))]
            self.assertEqual(*runs)
            spoil(runs[0])
            self.assertEqual(runs[1], breaker(sample_book(answers=["yes", "no"]), wish))


class FallsTo(unittest.TestCase):
    def test_the_least_number(self):
        told = set()
        for book in some_books():
            graph = model_graph(book)
            broken = model_breakers(graph)
            falls = lengths(graph, is_fall)
            for wish in WISHES:
                least = min([falls[standing] for standing in broken[wish]], default=None)
                self.assertEqual(exactly(falls_to(book, wish)), exactly(least))
                told.add(least)
        self.assertLessEqual({None, 0, 1, 2}, told)

    def test_also_where_it_takes_more_deeds(self):
        fewer = 0
        for book in some_books():
            for wish in WISHES:
                run = breaker(book, wish)
                if run is not None:
                    in_run = len([deed for deed in run if is_fall(deed)])
                    self.assertLessEqual(falls_to(book, wish), in_run)
                    fewer += falls_to(book, wish) < in_run
        self.assertGreater(fewer, 0)

    def test_known_ones(self):
        self.assertEqual(falls_to(presumed_no(ready="lazy"), "kept"), 1)
        self.assertEqual(falls_to(presumed_no(agreed="lazy"), "steady"), 1)
        self.assertIsNone(falls_to(wish="kept", book=presumed_no()))
        self.assertEqual(falls_to(presumed_no(answers=[]), "kept"), 0)


class Paper(unittest.TestCase):
    def test_what_holds_and_what_is_broken(self):
        for book in some_books()[::2]:
            standings = sorted(model_graph(book))
            for wish in ("honest", "kept", "steady"):
                shown = paper(book, wish)
                if holds(book, wish):
                    self.assertEqual(exactly(shown), exactly(("holds", standings)))
                else:
                    self.assertEqual(exactly(shown), exactly(("broken", breaker(book, wish))))
                self.assertIs(is_paper(book, wish, shown), True)

    def test_quiet(self):
        for book in some_books()[::2]:
            shown = paper(book, "quiet")
            if holds(book, "quiet"):
                least = deeds_to_quiet(model_graph(book))
                told = {standing: least[standing] for standing in sorted(least)}
                self.assertEqual(exactly(shown), exactly(("holds", told)))
            else:
                self.assertEqual(exactly(shown), exactly(("broken", breaker(book, "quiet"))))
            self.assertIs(is_paper(book, "quiet", shown), True)

    def test_the_numbers(self):
        for make in KNOWN.values():
            numbers = paper(wish="quiet", book=make())[1]
            self.assertEqual(set(numbers.values()), {0, 1, 2, 3})
            self.assertEqual(numbers[first(1)], 1)
            self.assertEqual(list(numbers), standings_of(make()))

    def test_what_is_returned_is_new(self):
        for book, wish in product((presumed_no(), presumed_no(ready="lazy")), WISHES):
            shown = paper(book, wish)
            again = exactly(shown)
            spoil(shown)
            self.assertEqual(exactly(paper(book, wish)), again)


class IsPaper(unittest.TestCase):
    def yes(self, book, wish, thing):
        before = exactly(thing)
        self.assertIs(is_paper(book, wish, thing), True)
        self.assertEqual(exactly(thing), before)

    def no(self, book, wish, thing):
        before = exactly(thing)
        self.assertIs(is_paper(book, wish, thing), False)
        self.assertEqual(exactly(thing), before)

    def test_closed_lists(self):
        for make, wish in product(KNOWN.values(), ("honest", "kept", "steady")):
            book, standings = make(), standings_of(make())
            for some in (standings, tuple(standings), standings[::-1]):
                self.yes(book, wish, ("holds", some))
                self.no(book, wish, ["holds", some])
                self.no(book, wish, ("broken", some))
                self.no(book, wish, ("holds", some, some))
            self.no(book, wish, ("holds", {standing: 0 for standing in standings}))
            self.no(book, wish, ("holds",))
            self.no(book, wish, standings)

    def test_closed_lists_with_more_than_what_comes(self):
        book = presumed_no(presume="wait")
        standings = standings_of(book)
        for wish, more in product(("honest", "kept", "steady"), product((False, True), repeat=3)):
            decided, took, dropped = more
            standing = (("gone", NONE, decided), (("empty", NONE, True, (), (), took, dropped),))
            if standing not in standings:
                broken = model_breaks(book, wish, standing)
                (self.no if broken else self.yes)(book, wish, ("holds", [*standings, standing]))

    def test_lists_that_are_not_closed(self):
        for make, wish in product(KNOWN.values(), ("honest", "kept", "steady")):
            book, standings = make(), standings_of(make())
            for at in range(0, len(standings), 4):
                self.no(book, wish, ("holds", standings[:at] + standings[at + 1 :]))
                self.no(book, wish, ("holds", [*standings, standings[at]]))
            for wrong in (None, first(2), list(first(1)), (("gone", (("begin",), 0), True), first(1)[1])):
                self.no(book, wish, ("holds", [*standings, wrong]))
            self.no(book, wish, ("holds", []))

    def test_lists_in_which_the_wish_is_broken(self):
        for book in some_books()[::4]:
            for wish in ("honest", "kept", "steady"):
                (self.yes if holds(book, wish) else self.no)(book, wish, ("holds", standings_of(book)))

    def test_numbers_that_are_greater_and_still_fall(self):
        for make in KNOWN.values():
            numbers = paper(make(), "quiet")[1]
            self.yes(make(), "quiet", ("holds", {one: number * 10 ** 27 for one, number in numbers.items()}))
            self.yes(make(), "quiet", ("holds", {one: number + (number > 1) for one, number in numbers.items()}))
            self.yes(make(), "quiet", ("holds", {one: numbers[one] for one in reversed(numbers)}))

    def test_numbers_that_do_not_fall(self):
        for make in KNOWN.values():
            numbers = paper(make(), "quiet")[1]
            for one, number in numbers.items():
                if number > 0:
                    for lower in range(-1, number):
                        self.no(make(), "quiet", ("holds", {**numbers, one: lower}))
                for wrong in (-1, False, True, None, "1", [], str(number)):
                    self.no(make(), "quiet", ("holds", {**numbers, one: wrong}))
            self.no(make(), "quiet", ("holds", {one: number + 1 for one, number in numbers.items()}))
            self.no(make(), "quiet", ("holds", {one: 0 for one in numbers}))

    def test_a_greater_number_of_one_that_has_done_with_the_deal(self):
        book = presumed_no()
        numbers = paper(book, "quiet")[1]
        told = 0
        for one, number in numbers.items():
            if number == 0:
                moves = model_moves(book, one).items()
                lower = [other for deed, other in moves if not is_fall(deed) and numbers[other] == 0 and other != one]
                thing = ("holds", {**numbers, one: 1})
                rest = [other for other in numbers if numbers[other] == 1]
                # Those that fall to this one alone do not fall any more.
                needed = [
                    other for other in rest if not [
                        1 for deed, behind in model_moves(book, other).items()
                        if not is_fall(deed) and behind != one and numbers[behind] == 0
                    ]
                ]
                (self.yes if lower and not needed else self.no)(book, "quiet", thing)
                told += bool(lower and not needed)
        self.assertGreater(told, 0)

    def test_a_standing_left_out_or_put_in(self):
        for make in KNOWN.values():
            numbers = paper(make(), "quiet")[1]
            for one in list(numbers)[::3]:
                self.no(make(), "quiet", ("holds", {other: numbers[other] for other in numbers if other != one}))
            for wrong in (None, True, 0, "x", (), first(2), (("new", ((), False), False), first(1)[1])):
                self.no(make(), "quiet", ("holds", {**numbers, wrong: 0}))
            self.no(make(), "quiet", ("holds", {}))

    def test_a_closed_dict_with_more_than_what_comes(self):
        book = presumed_no()
        numbers = paper(book, "quiet")[1]
        standing = (("gone", NONE, True), (("empty", NONE, True, ("no", "yes"), ("no", "yes"), False, False),))
        self.assertNotIn(standing, numbers)
        self.yes(book, "quiet", ("holds", {**numbers, standing: 0}))
        self.no(book, "quiet", ("holds", {**numbers, standing: 1}))

    def test_a_list_in_the_place_of_a_dict(self):
        for make in KNOWN.values():
            numbers = paper(make(), "quiet")[1]
            for some in (list(numbers), tuple(numbers), list(numbers.items()), None):
                self.no(make(), "quiet", ("holds", some))
            self.no(make(), "quiet", ["holds", numbers])
            self.no(make(), "quiet", ("broken", numbers))

    def test_runs(self):
        for book in some_books()[::2]:
            for turn, wish in product(range(4), WISHES):
                run, standing = model_run(book, 1, 12 + turn, turn)
                for thing in (run, tuple(run)):
                    (self.yes if model_breaks(book, wish, standing) else self.no)(book, wish, ("broken", thing))
                    self.no(book, wish, ("holds", thing))

    def test_runs_that_break_in_other_ways_than_the_shortest(self):
        for book in some_books()[::4]:
            for wish, broken in model_breakers(model_graph(book)).items():
                for standing in broken[::11]:
                    run = run_to(book, standing)
                    self.yes(book, wish, ("broken", run))
                    self.no(book, wish, ["broken", run])
                    self.no(book, wish, ("broken", [*run, None]))
                    self.no(book, wish, ("broken", [*run, ("fall", 1, 0)]))
                    self.no(book, wish, ("breaks", run))
                    self.no(book, wish, ("broken", run, run))
                    self.no(book, wish, run)

    def test_runs_that_do_not_break(self):
        book = presumed_no(ready="lazy")
        for thing in ([], [("ask",)], breaker(book, "kept")[:-1], None, "run", {}, [None]):
            self.assertFalse(is_run(book, 1, thing) and breaks(book, "kept", led_to(book, 1, thing)))
            self.no(book, "kept", ("broken", thing))
        self.no(book, "honest", ("broken", breaker(book, "kept")))
        self.no(presumed_no(), "kept", ("broken", breaker(book, "kept")))

    def test_runs_of_two_houses(self):
        book = presumed_no(ready="lazy")
        self.no(book, "kept", ("broken", [("refuse", 1), *breaker(book, "kept")]))

    def test_values_of_other_kinds(self):
        for wrong, wish in product(any_values(), WISHES):
            self.no(presumed_no(), wish, wrong)
            self.no(presumed_no(), wish, ("holds", wrong))
            self.no(presumed_no(ready="lazy"), wish, ("broken", wrong))
            self.no(presumed_no(), wish, (wrong, standings_of(presumed_no())))

    def test_by_name(self):
        self.assertIs(is_paper(thing=paper(presumed_no(), "quiet"), wish="quiet", book=presumed_no()), True)


if __name__ == "__main__":
    unittest.main()
