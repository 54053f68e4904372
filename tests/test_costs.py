"""Point 80: costs and cheapest."""

import unittest
from itertools import combinations, product

from presumebooks.books import Book
from presumebooks.costs import cheapest, costs
from presumebooks.runs import is_run
from tests.samples import (
    ALL_ANSWERS, LOTS, PRESUMPTIONS, WISHES, all_books, any_values, error_of, exactly, held_by_lots,
    nothing_presumed, presumed_no, presumed_yes, sample_book, spoil,
)

NUMBERS = (1, 2, 3, 5, 17, 100)


def plain_course(book, outcome, houses):
    """The deeds of the plain course."""
    all_houses = range(houses)
    last = ("vote", houses - 1) if outcome == "yes" else ("refuse", houses - 1)
    hearing = all_houses if outcome == "yes" else all_houses[:-1]
    run = [("ask",), *[("vote", k) for k in all_houses[:-1]], last, ("decide", outcome)]
    run.extend([("tell", k) for k in all_houses])
    run.extend([("hear", k, outcome) for k in hearing])
    run.extend([("answer", k, outcome) for k in all_houses if outcome in book.answers])
    return run


def told_costs(book, outcome, houses):
    """The costs, counted deed by deed."""
    records = {
        "ask": "begin", "vote": "ready", "refuse": "refused", "decide": {"yes": "yes", "no": "no"}[outcome],
        "hear": {"yes": "agreed", "no": "refused"}[outcome],
    }
    run = plain_course(book, outcome, houses)
    forced = [deed for deed in run if deed[0] in records and book.word(records[deed[0]]) == "forced"]
    letters = [deed for deed in run if deed[0] in ("vote", "refuse", "tell", "answer")]
    return (len(forced), houses + len(letters))


class Costs(unittest.TestCase):
    def test_counted_deed_by_deed(self):
        for book in all_books()[::61]:
            for outcome, houses in product(("no", "yes"), NUMBERS):
                told = exactly(told_costs(book, outcome, houses))
                self.assertEqual(exactly(costs(book, outcome, houses)), told)

    def test_the_plain_course_is_a_run(self):
        for book in all_books()[::401]:
            for outcome, houses in product(("no", "yes"), range(1, 6)):
                run = [*plain_course(book, outcome, houses), ("forget",)]
                self.assertIs(is_run(book, houses, run), True)

    def test_known_ones(self):
        self.assertEqual(costs(presumed_no(), "yes", 1), (3, 4))
        self.assertEqual(costs(presumed_no(), "no", 1), (0, 3))
        self.assertEqual(costs(presumed_no(), "yes", 3), (7, 12))
        self.assertEqual(costs(presumed_no(), "no", 3), (2, 9))
        self.assertEqual(costs(presumed_yes(), "yes", 3), (5, 9))
        self.assertEqual(costs(presumed_yes(), "no", 3), (6, 12))
        self.assertEqual(costs(nothing_presumed(), "no", 100), (100, 400))
        self.assertEqual(costs(nothing_presumed(), "yes", 100), (102, 400))

    def test_all_forced_and_nothing_forced(self):
        for answers, outcome, houses in product(ALL_ANSWERS, ("no", "yes"), NUMBERS):
            letters = (4 if outcome in answers else 3) * houses
            forced = 2 + 2 * houses if outcome == "yes" else 2 + houses - 1 + houses
            self.assertEqual(costs(Book(*("forced",) * 6, answers), outcome, houses), (forced, letters))
            for word in ("lazy", "none"):
                self.assertEqual(costs(Book(*(word,) * 6, answers), outcome, houses), (0, letters))

    def test_each_record_alone(self):
        houses = 7
        times = {"begin": (1, 1), "yes": (0, 1), "no": (1, 0), "ready": (6, 7), "agreed": (0, 7), "refused": (7, 0)}
        for record, (by_no, by_yes) in times.items():
            book = sample_book().with_forced([record], "lazy")
            self.assertEqual(costs(book, "no", houses)[0], by_no)
            self.assertEqual(costs(book, "yes", houses)[0], by_yes)

    def test_by_name(self):
        self.assertEqual(exactly(costs(houses=1, outcome="yes", book=presumed_no())), exactly((3, 4)))

    def test_no_book_comes_first(self):
        for wrong in any_values():
            if not isinstance(wrong, Book):
                for outcome, houses in (("yes", 1), ("wait", 0), (None, True)):
                    self.assertEqual(error_of(costs, wrong, outcome, houses), ("BadBook", "book"))
                    self.assertEqual(error_of(cheapest, wrong, [], outcome, houses), ("BadBook", "book"))

    def test_no_outcome_comes_ahead_of_no_number(self):
        for wrong in (*any_values(), "wait", "Yes", ["yes"], ("no",)):
            for houses in (1, 100, 0, None):
                self.assertEqual(error_of(costs, sample_book(), wrong, houses), ("BadOutcome",))
                self.assertEqual(error_of(cheapest, sample_book(), ["kept"], wrong, houses), ("BadOutcome",))

    def test_no_number_of_houses(self):
        for wrong in (*any_values(), 101, 0, -1, "1", [1]):
            if type(wrong) is not int or not 1 <= wrong <= 100:
                for outcome in ("no", "yes"):
                    told = exactly(("BadNumber", wrong))
                    self.assertEqual(exactly(error_of(costs, sample_book(), outcome, wrong)), told)
                    self.assertEqual(exactly(error_of(cheapest, sample_book(), ["kept"], outcome, wrong)), told)


class Cheapest(unittest.TestCase):
    def test_against_a_search_of_the_tests_own_over_all_lots(self):
        several = 0
        for answers, presume in product(ALL_ANSWERS, PRESUMPTIONS):
            book = sample_book(answers=answers, presume=presume)
            held = held_by_lots(answers, presume, "none")
            for length in range(1, 5):
                for wishes in combinations(WISHES, length):
                    good = [lot for lot in LOTS if all(wish in held[lot] for wish in wishes)]
                    for outcome, houses in (("no", 1), ("yes", 1), ("no", 2), ("yes", 4), ("no", 100)):
                        price = {
                            lot: (told_costs(book.with_forced(lot, "none"), outcome, houses)[0], len(lot)) for lot in good
                        }
                        best = min(price.values(), default=None)
                        told = sorted([lot for lot in good if price[lot] == best])
                        self.assertEqual(exactly(cheapest(book, wishes, outcome, houses)), exactly(told))
                        several += len(told) > 1
        self.assertGreater(several, 0)

    def test_known_ones(self):
        alike = ["honest", "kept"]
        self.assertEqual(cheapest(presumed_no(), alike, "yes", 3), [("agreed", "ready", "yes")])
        self.assertEqual(cheapest(presumed_yes(), alike, "yes", 3), [("begin", "ready", "refused", "yes")])
        self.assertEqual(cheapest(nothing_presumed(), alike, "no", 3), [("ready",)])
        self.assertEqual(cheapest(nothing_presumed(), WISHES, "yes", 3), [("begin", "ready", "yes")])

    def test_none_has_them(self):
        for outcome in ("no", "yes"):
            self.assertEqual(exactly(cheapest(sample_book(answers=[]), ["kept", "honest"], outcome, 2)), exactly([]))

    def test_the_words_have_no_meaning(self):
        told = cheapest(presumed_no(), WISHES, "no", 3)
        for words in (("none",) * 6, ("lazy",) * 6, ("forced",) * 6, ("forced", "none", "lazy") * 2):
            self.assertEqual(cheapest(Book(*words, ["yes"], "no"), WISHES, "no", 3), told)

    def test_wishes_in_any_order_as_a_list_or_a_tuple(self):
        wishes = ["quiet", "kept", "honest"]
        told = cheapest(presumed_no(), wishes, "yes", 2)
        self.assertEqual(wishes, ["quiet", "kept", "honest"])
        self.assertEqual(cheapest(presumed_no(), tuple(sorted(wishes)), "yes", 2), told)
        spoil(told)
        again = cheapest(houses=2, outcome="yes", wishes=wishes, book=presumed_no())
        self.assertEqual(again, [("agreed", "ready", "yes")])

    def test_no_wishes_come_ahead_of_no_outcome_and_no_number(self):
        for wrong in (*any_values(), "kept"):
            for outcome, houses in (("yes", 1), ("wait", 0)):
                if not isinstance(wrong, (list, tuple)) or len(wrong) == 0:
                    self.assertEqual(error_of(cheapest, sample_book(), wrong, outcome, houses), ("BadWish", None))
                told = error_of(cheapest, sample_book(), ["kept", [wrong], "kept"], outcome, houses)
                self.assertEqual(exactly(told), exactly(("BadWish", [wrong])))
        self.assertEqual(error_of(cheapest, sample_book(), ("kept", "kept"), "x", 0), ("BadWish", "kept"))


if __name__ == "__main__":
    unittest.main()
