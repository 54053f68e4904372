"""Point 100: may_have, sure_of and logs_left."""

import unittest
from itertools import permutations, product

from presumebooks.back import logs_left, may_have, sure_of
from presumebooks.books import Book
from tests.model import model_graph, model_moves
from tests.samples import (
    ALL_ANSWERS, CHAIR, HOUSE, PARTS, PRESUMPTIONS, RECORDS, WORDS, all_books, any_values, error_of, exactly,
    nothing_presumed, presumed_no, presumed_yes, sample_book, spoil,
)

KNOWN = (presumed_no, presumed_yes, nothing_presumed)


def rows_of(records):
    """All tuples of different ones of these records."""
    return [row for length in range(4) for row in permutations(records, length)]


def lazy_books():
    """All books whose records are all lazy: with these falls leave the most."""
    return [Book(*["lazy"] * 6, answers, presume) for answers in ALL_ANSWERS for presume in PRESUMPTIONS]


def some_books():
    """Books of all kinds, also one that writes nothing and ones that force all."""
    plain = [Book(*[word] * 6, ["yes"], presume) for word in ("none", "forced") for presume in PRESUMPTIONS]
    return [*all_books()[::271], *lazy_books()[::2], *plain, *[make() for make in KNOWN]]


def told_triples(book):
    """The dict from the pairs of records left to the triples, by the test's own search: both fall one after the other
    behind each standing that comes.
    """
    found = {}
    for moves in model_graph(book).values():
        for deed, behind in moves.items():
            if deed[0] != "down":
                continue
            for last, ((_, (of_chair, _), decided), (house,)) in model_moves(book, behind).items():
                if last[0] == "fall":
                    found.setdefault((of_chair, house[1][0]), set()).add((decided, house[5], house[6]))
    return found


def told_sure(triples):
    """What is sure by these triples."""
    at = {"decided": 0, "dropped": 2, "took": 1}
    sure = {}
    for part in at:
        worths = {triple[at[part]] for triple in triples}
        sure[part] = worths.pop() if len(worths) == 1 else None
    return sure


class MayHave(unittest.TestCase):
    def test_all_pairs_that_are_left(self):
        for book in some_books():
            for (of_chair, of_house), triples in told_triples(book).items():
                self.assertEqual(exactly(may_have(book, of_chair, of_house)), exactly(sorted(triples)))

    def test_all_pairs_that_there_are(self):
        for book in some_books()[::8]:
            told = told_triples(book)
            for pair in product(rows_of(CHAIR), rows_of(HOUSE)):
                self.assertEqual(exactly(may_have(book, *pair)), exactly(sorted(told.get(pair, []))))

    def test_some_that_are_plain(self):
        # The chair did not decide yes, or it would still have it; the house may have let the deal go without a record.
        found = may_have(book=presumed_no(), house_log=("ready",), chair_log=())
        self.assertEqual(found, [(False, False, False), (False, False, True)])
        self.assertEqual(may_have(presumed_no(), ("yes",), ("ready", "agreed")), [(True, True, False)])
        self.assertEqual(may_have(presumed_no(), ("yes",), ("ready",)), [(True, False, False)])
        self.assertEqual(may_have(presumed_no(refused="lazy"), (), ("refused",)), [(False, False, True)])

    def test_records_in_another_order_and_ones_that_are_never_left(self):
        book = Book(*["forced"] * 6, ["yes"], "no")
        self.assertEqual(may_have(book, ("begin", "yes"), ("ready", "agreed")), [(True, True, False)])
        for pair in (
            (("yes", "begin"), ("ready", "agreed")), (("begin", "yes"), ("agreed", "ready")),
            (("yes",), ("ready", "agreed")), (("begin", "yes"), ("agreed",)), (("no", "begin"), ("refused",)),
            (("begin", "yes", "no"), ("ready",)), (("begin", "no"), ("ready", "agreed", "refused")),
            (("begin", "no"), ("ready", "agreed")),
        ):
            self.assertEqual(exactly(may_have(book, *pair)), exactly([]))

    def test_a_house_that_falls_without_a_record_lets_the_deal_go(self):
        for book in some_books():
            for decided, took, dropped in may_have(book, (), ()):
                self.assertTrue(dropped or took)

    def test_the_list_is_new_and_equal_books_have_equal_ones(self):
        book = sample_book(answers=["no", "yes"])
        found = may_have(book, (), ("ready",))
        again = list(found)
        self.assertTrue(again)
        spoil(found)
        self.assertEqual(may_have(book, (), ("ready",)), again)
        self.assertEqual(may_have(sample_book(answers=("yes", "no")), (), ("ready",)), again)

    def test_books_made_by_one_that_was_asked_before(self):
        book = presumed_no()
        for record, word in product(RECORDS, WORDS):
            before = [may_have(book, (), ("ready",)), logs_left(book)]
            other = book.with_word(record, word)
            told = told_triples(other)
            self.assertEqual(logs_left(other), sorted(told))
            for pair in told:
                self.assertEqual(may_have(other, *pair), sorted(told[pair]))
            anew = Book(*[getattr(other, part) for part in PARTS])
            self.assertEqual(logs_left(anew), sorted(told))
            self.assertEqual([may_have(book, (), ("ready",)), logs_left(book)], before)

    def test_errors_in_their_order(self):
        near = [["yes"], [], "yes", ("yes", "yes"), ("yes", "x"), ("YES",), (("yes",), 1), {"yes": 0}, (True,), ((),)]
        for call in (may_have, sure_of):
            for wrong in (*any_values(), *near):
                if not isinstance(wrong, Book):
                    self.assertEqual(error_of(call, wrong, ("yes",), ("ready",)), ("BadBook", "book"))
                    self.assertEqual(error_of(call, wrong, wrong, wrong), ("BadBook", "book"))
                if wrong == () or wrong == ("begin",):
                    continue
                before = exactly(wrong)
                self.assertEqual(error_of(call, sample_book(), wrong, ("ready",)), ("BadLog",))
                self.assertEqual(error_of(call, sample_book(), wrong, wrong), ("BadLog",))
                self.assertEqual(error_of(call, sample_book(), ("yes",), wrong), ("BadLog",))
                self.assertEqual(exactly(wrong), before)
            for of_chair, of_house in (
                (("ready",), ()), (("begin", "ready"), ()), ((), ("yes",)), (("yes",), ("ready", "begin")),
                (("ready",), ("yes",)), (("yes",), ("ready", "ready")), (("begin", "yes", "begin"), ("ready",)),
            ):
                self.assertEqual(error_of(call, sample_book(), of_chair, of_house), ("BadLog",))


class SureOf(unittest.TestCase):
    def test_against_a_search_of_the_tests_own(self):
        seen = set()
        for book in some_books():
            told = told_triples(book)
            for pair in (*told, (("yes", "begin"), ()), (("no",), ("agreed", "refused"))):
                found = sure_of(book, *pair)
                self.assertEqual(exactly(found), exactly(told_sure(told.get(pair, []))))
                seen.update(found.values())
        self.assertEqual(seen, {True, False, None})

    def test_some_that_are_plain(self):
        found = sure_of(house_log=("ready",), chair_log=("yes",), book=presumed_no())
        self.assertEqual(exactly(found), exactly({"decided": True, "dropped": False, "took": False}))
        found = sure_of(presumed_no(), ("yes",), ("agreed",))
        self.assertEqual(exactly(found), exactly({"decided": None, "dropped": None, "took": None}))
        found = sure_of(presumed_no(), (), ())
        self.assertEqual(list(found), ["decided", "dropped", "took"])
        self.assertEqual(exactly(found), exactly(told_sure(told_triples(presumed_no())[(), ()])))
        self.assertIn(None, found.values())

    def test_the_dict_is_new(self):
        spoil(sure_of(presumed_no(), ("yes",), ("ready",)))
        found = sure_of(presumed_no(), ("yes",), ("ready",))
        self.assertEqual(found, {"decided": True, "dropped": False, "took": False})


class LogsLeft(unittest.TestCase):
    def test_against_a_search_of_the_tests_own(self):
        for book in some_books():
            self.assertEqual(exactly(logs_left(book)), exactly(sorted(told_triples(book))))

    def test_some_that_are_plain(self):
        nothing = Book(*["none"] * 6, ["yes"], "no")
        self.assertEqual(exactly(logs_left(nothing)), exactly([((), ())]))
        found = logs_left(book=presumed_no())
        self.assertEqual(found, [((), ()), ((), ("ready",)), ((), ("ready", "agreed")), (("yes",), ()),
                                 (("yes",), ("ready",)), (("yes",), ("ready", "agreed"))])
        forced = logs_left(Book(*["forced"] * 6, ["yes"], "no"))
        self.assertNotIn((("yes",), ("ready",)), forced)
        self.assertIn((("begin", "yes"), ("ready", "agreed")), forced)

    def test_pairs_are_just_those_with_triples(self):
        for book in some_books()[::6]:
            left = logs_left(book)
            for pair in product(rows_of(CHAIR), rows_of(HOUSE)):
                self.assertEqual(pair in left, may_have(book, *pair) != [])

    def test_the_list_is_new(self):
        found = logs_left(presumed_no())
        again = list(found)
        spoil(found)
        self.assertEqual(logs_left(presumed_no()), again)

    def test_no_book(self):
        for wrong in any_values():
            if not isinstance(wrong, Book):
                self.assertEqual(error_of(logs_left, wrong), ("BadBook", "book"))


if __name__ == "__main__":
    unittest.main()
