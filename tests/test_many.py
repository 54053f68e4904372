"""Point 60: cut, is_alike, unlike_run and spread."""

import unittest
from itertools import product

from presumebooks.books import Book
from presumebooks.comes import run_to
from presumebooks.many import cut, is_alike, spread, unlike_run
from presumebooks.runs import ends, is_run, led_to
from presumebooks.wishes import breaker, holds
from tests.model import model_breakers, model_first, model_graph, model_moves, model_run
from tests.samples import (
    all_books, any_values, error_of, exactly, nothing_presumed, presumed_no, presumed_yes, sample_book, spoil,
)

KNOWN = {"no": presumed_no, "yes": presumed_yes, "wait": nothing_presumed}
CHAIR_WORDS = ("ask", "decide", "forget", "down")


def some_books():
    """Books of all kinds, alike and not."""
    lazy = [KNOWN[word](**{record: "lazy"}) for word in KNOWN for record in KNOWN[word]().forced]
    return [*all_books()[1::223], *[make() for make in KNOWN.values()], *lazy]


def told_cut(run, house):
    """The deeds of the chair and of a house, which is numbered 0."""
    return [
        deed if deed[0] in CHAIR_WORDS else (deed[0], 0, *deed[2:])
        for deed in run if deed[0] in CHAIR_WORDS or deed[1] == house
    ]


def is_unlike(pairs):
    """Whether some house took and some house dropped."""
    return any(took for took, _ in pairs) and any(dropped for _, dropped in pairs)


class Cut(unittest.TestCase):
    def test_to_each_house(self):
        for turn, book in enumerate(all_books()[::211]):
            houses = turn % 5 + 1
            run, (chair, all_houses) = model_run(book, houses, 10 + turn % 40, turn)
            for house, thing in product(range(houses), (run, tuple(run))):
                before = exactly(thing)
                shorter = cut(book, houses, thing, house)
                self.assertEqual(exactly(shorter), exactly(told_cut(run, house)))
                self.assertEqual(led_to(book, 1, shorter), (chair, all_houses[house : house + 1]))
                self.assertEqual(exactly(thing), before)

    def test_one_that_is_plain(self):
        run = [
            ("ask",), ("vote", 1), ("refuse", 0), ("decide", "no"), ("tell", 0), ("tell", 1), ("hear", 1, "no"),
            ("answer", 0, "no"), ("down", 0), ("fall", 1, 1), ("down", 0),
        ]
        told = [("ask",), ("vote", 0), ("decide", "no"), ("tell", 0), ("hear", 0, "no"), ("down", 0), ("fall", 0, 1)]
        self.assertEqual(cut(house=1, run=run, houses=2, book=presumed_no()), [*told, ("down", 0)])

    def test_none_done(self):
        for houses in range(1, 6):
            for house in range(houses):
                self.assertEqual(exactly(cut(sample_book(), houses, (), house)), exactly([]))

    def test_the_list_is_new(self):
        run = [("ask",), ("refuse", 0)]
        spoil(cut(sample_book(), 1, run, 0))
        self.assertEqual(run, [("ask",), ("refuse", 0)])

    def test_errors_in_their_order(self):
        for wrong in any_values():
            if not isinstance(wrong, Book):
                self.assertEqual(error_of(cut, wrong, 0, None, None), ("BadBook", "book"))
            if exactly(wrong) not in [exactly(houses) for houses in range(1, 6)]:
                told = error_of(cut, sample_book(), wrong, None, None)
                self.assertEqual(exactly(told), exactly(("BadNumber", wrong)))
            told = error_of(cut, sample_book(), 2, [("ask",), wrong], 7)
            self.assertEqual(exactly(told), exactly(("BadDeed", 1)))
            if not isinstance(wrong, (list, tuple)):
                self.assertEqual(error_of(cut, sample_book(), 2, wrong, 7), ("BadDeed", 0))
        self.assertEqual(error_of(cut, sample_book(), 2, [("ask",), ("vote", 1), ("vote", 2)], 2), ("BadDeed", 2))

    def test_no_number_of_a_house(self):
        for houses in range(1, 6):
            for wrong in (*any_values(), houses, houses + 1, -1, "0", [0]):
                if exactly(wrong) not in [exactly(house) for house in range(houses)]:
                    told = error_of(cut, sample_book(), houses, [("ask",)], wrong)
                    self.assertEqual(exactly(told), exactly(("BadNumber", wrong)))


class IsAlike(unittest.TestCase):
    def test_honest_and_kept(self):
        for book in some_books():
            broken = model_breakers(model_graph(book))
            self.assertIs(is_alike(book), not broken["honest"] and not broken["kept"])

    def test_the_known_books(self):
        for make in KNOWN.values():
            self.assertIs(is_alike(make()), True)

    def test_the_known_books_with_one_record_lazy(self):
        for word, make in KNOWN.items():
            for record in make().forced:
                alike = (word, record) == ("wait", "begin")
                self.assertIs(is_alike(make(**{record: "lazy"})), alike)

    def test_against_a_search_with_two_houses(self):
        for book in (presumed_no(), presumed_no(ready="lazy"), presumed_yes(), presumed_yes(begin="lazy")):
            seen, waiting, unlike = set(), [model_first(2)], False
            while waiting:
                standing = waiting.pop()
                if standing not in seen:
                    seen.add(standing)
                    unlike = unlike or is_unlike([house[5:] for house in standing[1]])
                    waiting.extend(model_moves(book, standing).values())
            self.assertIs(is_alike(book=book), not unlike)

    def test_no_book(self):
        for wrong in any_values():
            if not isinstance(wrong, Book):
                self.assertEqual(error_of(is_alike, wrong), ("BadBook", "book"))
                self.assertEqual(error_of(unlike_run, wrong), ("BadBook", "book"))


class UnlikeRun(unittest.TestCase):
    def test_it_ends_unlike(self):
        for book in some_books():
            run = unlike_run(book)
            if is_alike(book):
                self.assertIsNone(run)
            else:
                self.assertIs(type(run), list)
                self.assertIs(is_run(book, 2, run), True)
                self.assertTrue(is_unlike(ends(book, 2, run)))

    def test_equal_arguments_give_equal_results(self):
        for make in KNOWN.values():
            book = make(ready="lazy", begin="lazy")
            run = unlike_run(book)
            again = list(run)
            spoil(run)
            self.assertEqual(unlike_run(book=make(ready="lazy", begin="lazy")), again)


class Spread(unittest.TestCase):
    def right(self, book, run):
        before = exactly(run)
        longer = spread(book, run)
        self.assertIs(type(longer), list)
        self.assertIs(is_run(book, 2, longer), True)
        self.assertTrue(is_unlike(ends(book, 2, longer)))
        self.assertEqual(exactly(cut(book, 2, longer, 0)), exactly(list(run)))
        self.assertEqual(spread(book, tuple(run)), longer)
        self.assertEqual(exactly(run), before)

    def test_the_shortest(self):
        seen = {"honest": 0, "kept": 0}
        for book, wish in product(some_books(), seen):
            if not holds(book, wish):
                self.right(book, breaker(book, wish))
                seen[wish] += 1
        self.assertGreater(min(seen.values()), 3)

    def test_to_each_standing_that_breaks(self):
        for book in some_books()[::4]:
            broken = model_breakers(model_graph(book))
            for standing in [*broken["honest"], *broken["kept"]][::3]:
                self.right(book, run_to(book, standing))

    def test_any_way(self):
        rights = wrongs = 0
        books = [book for book in some_books() if not is_alike(book)]
        for turn in range(60):
            for book in books[turn % 4 :: 4]:
                run, standing = model_run(book, 1, 8 + turn, turn)
                if any(standing in model_broken for model_broken in self.broken_by(book, standing)):
                    self.right(book, run)
                    rights += 1
                else:
                    self.assertEqual(error_of(spread, book, run), ("NoBreak",))
                    wrongs += 1
        self.assertGreater(rights, 20)
        self.assertGreater(wrongs, 20)

    def broken_by(self, book, standing):
        """The lists of this standing alone, if it breaks honest, and kept."""
        (_, _, decided), ((*_, took, dropped),) = standing
        return [[standing] * (took and not decided), [standing] * (dropped and decided)]

    def test_a_chair_that_waits_for_answers_of_both_outcomes(self):
        book = presumed_no(begin="forced", yes="lazy", agreed="lazy", answers=["no", "yes"])
        run = [
            ("ask",), ("vote", 0), ("decide", "yes"), ("tell", 0), ("hear", 0, "yes"), ("answer", 0, "yes"), ("down", 1),
            ("tell", 0), ("answer", 0, "no"), ("forget",), ("fall", 0, 1), ("hear", 0, "no"),
        ]
        self.assertEqual(led_to(book, 1, run)[0], ("gone", ((), 0), True))
        self.right(book, run)

    def test_a_chair_that_waits_for_the_answer_of_a_house_that_refused(self):
        book = Book("none", "none", "none", "none", "none", "none", ["no", "yes"], "yes")
        run = [
            ("ask",), ("vote", 0), ("down", 0), ("tell", 0), ("hear", 0, "yes"), ("answer", 0, "yes"), ("down", 0),
        ]
        self.right(book, run)
        book = Book("none", "none", "forced", "forced", "none", "none", ["no"], "yes")
        run = [
            ("ask",), ("vote", 0), ("decide", "no"), ("tell", 0), ("hear", 0, "no"), ("answer", 0, "no"), ("forget",),
            ("tell", 0), ("fall", 0, 1), ("hear", 0, "yes"),
        ]
        self.right(book, run)

    def test_no_break(self):
        for make in KNOWN.values():
            for run in ([], [("ask",)], [("refuse", 0)], [("ask",), ("vote", 0), ("decide", "yes"), ("tell", 0)]):
                self.assertEqual(error_of(spread, make(), run), ("NoBreak",))
        run = breaker(presumed_no(ready="lazy"), "kept")
        self.assertEqual(error_of(spread, presumed_no(ready="lazy"), run[:-1]), ("NoBreak",))

    def test_steady_alone_is_not_enough(self):
        books = [book for book in some_books() if not holds(book, "steady") and is_alike(book)]
        for book in books:
            self.assertEqual(error_of(spread, book, breaker(book, "steady")), ("NoBreak",))

    def test_errors_in_their_order(self):
        for wrong in any_values():
            if not isinstance(wrong, Book):
                self.assertEqual(error_of(spread, wrong, None), ("BadBook", "book"))
            self.assertEqual(error_of(spread, presumed_no(), [("ask",), wrong]), ("BadDeed", 1))
            if not isinstance(wrong, (list, tuple)):
                self.assertEqual(error_of(spread, presumed_no(), wrong), ("BadDeed", 0))
        run = breaker(presumed_no(ready="lazy"), "kept")
        at = error_of(spread, presumed_no(), run)
        self.assertEqual(at[0], "BadDeed")
        self.assertEqual(error_of(spread, presumed_no(), [("ask",), ("vote", 1)]), ("BadDeed", 1))

    def test_by_name(self):
        book = presumed_no(ready="lazy")
        self.assertEqual(spread(run=breaker(book, "kept"), book=book), unlike_run(book))


if __name__ == "__main__":
    unittest.main()
