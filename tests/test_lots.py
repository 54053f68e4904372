"""Point 70: least_forced, least_written and needless."""

import unittest
from itertools import combinations, permutations, product

from presumebooks.books import Book
from presumebooks.lots import least_forced, least_written, needless
from tests.model import model_held
from tests.samples import (
    ALL_ANSWERS, LOTS, PRESUMPTIONS, RECORDS, WISHES, all_books, any_values, error_of, exactly, held_by_lots,
    nothing_presumed, presumed_no, presumed_yes, sample_book, spoil,
)

ALIKE = ["honest", "kept"]
FUNCTIONS = (least_forced, least_written, needless)


def told_least(held, wishes):
    """The lots with which all wishes hold, and with no smaller lot within them, in the order of LOTS."""
    good = [lot for lot in LOTS if all(wish in held[lot] for wish in wishes)]
    return [lot for lot in good if not any(set(smaller) < set(lot) for smaller in good)]


class Least(unittest.TestCase):
    def against_all_lots(self, function, rest):
        for answers, presume in product(ALL_ANSWERS, PRESUMPTIONS):
            held = held_by_lots(answers, presume, rest)
            book = sample_book(answers=answers, presume=presume)
            for length in range(1, 5):
                for wishes in combinations(WISHES, length):
                    told = exactly(told_least(held, wishes))
                    self.assertEqual(exactly(function(book, wishes)), told, (answers, presume, wishes))

    def test_least_forced_against_all_lots(self):
        self.against_all_lots(least_forced, "lazy")

    def test_least_written_against_all_lots(self):
        self.against_all_lots(least_written, "none")

    def test_the_example(self):
        told = []
        for answers, presume in ((["yes"], "no"), (["no"], "yes")):
            book = Book("none", "none", "none", "none", "none", "none", answers, presume)
            told.append(least_forced(book, ["honest", "kept"]))
        self.assertEqual(exactly(told), exactly([[("agreed", "ready", "yes")], [("begin", "ready", "refused", "yes")]]))

    def test_no_lots(self):
        book = sample_book(answers=[], presume="yes")
        for function in (least_forced, least_written):
            self.assertEqual(exactly(function(book, ["honest"])), exactly([]))
            self.assertEqual(exactly(function(book, WISHES)), exactly([]))

    def test_the_empty_lot_alone(self):
        for presume in ("no", "yes"):
            for function in (least_forced, least_written):
                self.assertEqual(exactly(function(sample_book(presume=presume), ["quiet"])), exactly([()]))

    def test_the_order_of_the_lists(self):
        several = 0
        for answers, presume in product(ALL_ANSWERS, PRESUMPTIONS):
            for function, length in product((least_forced, least_written), range(1, 5)):
                for wishes in combinations(WISHES, length):
                    lots = function(sample_book(answers=answers, presume=presume), wishes)
                    self.assertEqual(lots, sorted(lots, key=lambda lot: (len(lot), lot)))
                    self.assertEqual(lots, [tuple(sorted(lot)) for lot in lots])
                    several += len(lots) > 1
        self.assertGreater(several, 0)

    def test_the_words_have_no_meaning(self):
        for function in (least_forced, least_written):
            told = function(presumed_no(), ALIKE)
            for words in (("none",) * 6, ("lazy",) * 6, ("forced",) * 6, ("none", "lazy", "forced") * 2):
                self.assertEqual(function(Book(*words, ["yes"], "no"), ALIKE), told)

    def test_wishes_in_any_order(self):
        for function, length in product((least_forced, least_written), range(1, 5)):
            for wishes in combinations(WISHES, length):
                told = function(presumed_yes(), wishes)
                for other in permutations(wishes):
                    before = list(other)
                    self.assertEqual(function(presumed_yes(), before), told)
                    self.assertEqual(tuple(before), other)

    def test_a_written_record_that_does_harm(self):
        harmful = 0
        for answers, presume in product(ALL_ANSWERS, PRESUMPTIONS):
            held = held_by_lots(answers, presume, "none")
            for smaller, lot in product(LOTS, LOTS):
                if set(smaller) < set(lot) and not set(held[smaller]) <= set(held[lot]):
                    harmful += 1
                    lost = [wish for wish in held[smaller] if wish not in held[lot]]
                    lots = least_written(sample_book(answers=answers, presume=presume), lost)
                    self.assertNotIn(lot, lots)
                    break
        self.assertGreater(harmful, 0)

    def test_the_lists_are_new(self):
        for function in (least_forced, least_written):
            lots = function(presumed_no(), ALIKE)
            again = list(lots)
            spoil(lots)
            self.assertEqual(function(wishes=ALIKE, book=presumed_no()), again)


class Needless(unittest.TestCase):
    def test_against_a_search_of_the_tests_own(self):
        told = {"NotHeld": 0, "none": 0, "some": 0}
        for at, book in enumerate([*all_books()[7::97], presumed_no(), presumed_yes(), nothing_presumed()]):
            held = model_held(book)
            for wishes in ([WISHES[at % 4]], [WISHES[at % 4], WISHES[(at + 1) % 4]], held[::-1] or ["kept"]):
                if not all(wish in held for wish in wishes):
                    self.assertEqual(error_of(needless, book, wishes), ("NotHeld",))
                    told["NotHeld"] += 1
                    continue
                found = []
                for record in RECORDS:
                    without = model_held(book.with_word(record, "none"))
                    if book.word(record) != "none" and all(wish in without for wish in wishes):
                        found.append(record)
                self.assertEqual(exactly(needless(book, wishes)), exactly(tuple(found)))
                told["some" if found else "none"] += 1
        self.assertGreater(min(told.values()), 1)

    def test_the_known_books_need_all(self):
        for make in (presumed_no, presumed_yes, nothing_presumed):
            self.assertEqual(exactly(needless(make(), WISHES)), exactly(()))

    def test_lazy_and_forced_records(self):
        for word in ("lazy", "forced"):
            book = presumed_no(begin=word, refused=word, no=word)
            self.assertEqual(exactly(needless(book, ALIKE)), exactly(("begin", "no", "refused")))
        self.assertEqual(needless(wishes=["quiet"], book=presumed_no(no="lazy")), ("agreed", "no", "ready", "yes"))

    def test_each_alone(self):
        book = Book("lazy", "lazy", "lazy", "lazy", "lazy", "lazy", [], "no")
        self.assertEqual(needless(book, ["quiet"]), tuple(RECORDS))

    def test_not_held(self):
        for record in ("yes", "ready", "agreed"):
            self.assertEqual(error_of(needless, presumed_no(**{record: "lazy"}), ALIKE), ("NotHeld",))
            self.assertEqual(error_of(needless, presumed_no(**{record: "lazy"}), ["honest", "kept"]), ("NotHeld",))
        self.assertEqual(error_of(needless, nothing_presumed(begin="lazy"), ["honest", "quiet"]), ("NotHeld",))
        self.assertEqual(needless(nothing_presumed(begin="lazy"), ["honest", "kept"]), ("begin",))


class Wrong(unittest.TestCase):
    def wrong(self, wishes, told):
        before = exactly(wishes)
        for function in FUNCTIONS:
            for book in (presumed_no(), presumed_no(ready="lazy")):
                self.assertEqual(exactly(error_of(function, book, wishes)), exactly(("BadWish", told)))
        self.assertEqual(exactly(wishes), before)

    def test_no_list(self):
        for wrong in (*any_values(), "honest", {"honest": True}):
            if not isinstance(wrong, (list, tuple)):
                self.wrong(wrong, None)

    def test_an_empty_one(self):
        self.wrong([], None)
        self.wrong((), None)

    def test_the_first_item_that_is_no_wish(self):
        for wrong in (*any_values(), "Kept", ["kept"], ("kept",)):
            self.wrong([wrong], wrong)
            self.wrong(("kept", wrong, "x", "kept"), wrong)
            self.wrong(["kept", "quiet", wrong], wrong)

    def test_the_first_item_that_stands_there_before(self):
        self.wrong(["kept", "kept"], "kept")
        self.wrong(("kept", "honest", "honest", "kept"), "honest")
        self.wrong([*WISHES, "steady"], "steady")
        self.wrong(["quiet", "wrong", "quiet"], "wrong")
        self.wrong(["quiet", "quiet", "wrong"], "quiet")

    def test_no_book_comes_first(self):
        for wrong in any_values():
            if not isinstance(wrong, Book):
                for function, wishes in product(FUNCTIONS, (ALIKE, [], None)):
                    self.assertEqual(error_of(function, wrong, wishes), ("BadBook", "book"))


if __name__ == "__main__":
    unittest.main()
