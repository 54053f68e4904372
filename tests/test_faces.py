"""Point 90: faces, alone, run_alone and presumptions."""

import unittest
from itertools import combinations, permutations
from random import Random

from presumebooks.books import Book
from presumebooks.faces import alone, faces, presumptions, run_alone
from presumebooks.runs import is_run, led_to
from tests.model import lengths, model_graph, model_held
from tests.samples import (
    ALL_ANSWERS, PARTS, PRESUMPTIONS, RECORDS, WISHES, WORDS, all_books, any_values, error_of, exactly,
    nothing_presumed, presumed_no, presumed_yes, sample_book, spoil,
)

KNOWN = (presumed_no, presumed_yes, nothing_presumed)


def lazy_books():
    """All books whose records are all lazy: with these the most standings come."""
    return [Book(*["lazy"] * 6, answers, presume) for answers in ALL_ANSWERS for presume in PRESUMPTIONS]


def changed(book, **parts):
    """A book with some parts changed, made anew."""
    return Book(**{**{part: getattr(book, part) for part in PARTS}, **parts})


def told_face(standing):
    """The face of a standing, told a second time."""
    chair, (house,) = standing
    return (chair[0], house[0], chair[2], house[5], house[6])


def told_faces(book):
    """The faces of all standings that come, by the test's own search."""
    return {told_face(standing) for standing in model_graph(book)}


def neighbours(book):
    """The books that differ in one record, in answers, or in presume."""
    of_words = [changed(book, **{record: word}) for record in RECORDS for word in WORDS]
    of_answers = [changed(book, answers=answers) for answers in ALL_ANSWERS]
    of_presume = [changed(book, presume=presume) for presume in PRESUMPTIONS]
    return [other for other in (*of_words, *of_answers, *of_presume) if other != book]


def drawn_pairs(many):
    """Pairs of books of all kinds, also of books that are nearly equal."""
    draw = Random(90)
    books = all_books()
    pairs = [tuple(draw.sample(books, 2)) for _ in range(many)]
    for make in KNOWN:
        pairs.extend([(make(), other) for other in neighbours(make())])
        pairs.extend([(other, make()) for other in neighbours(make())])
    return pairs


class Faces(unittest.TestCase):
    def test_against_a_search_of_the_tests_own(self):
        for book in (*all_books()[::41], *lazy_books(), *[make() for make in KNOWN]):
            before = exactly(book)
            self.assertEqual(exactly(faces(book)), exactly(sorted(told_faces(book))))
            self.assertEqual(exactly(book), before)

    def test_some_that_are_plain(self):
        found = faces(book=presumed_no())
        self.assertIn(("new", "idle", False, False, False), found)
        self.assertIn(("new", "empty", False, False, True), found)
        self.assertIn(("yes", "yes", True, True, False), found)
        self.assertIn(("gone", "empty", True, True, False), found)
        self.assertNotIn(("new", "ready", False, False, False), found)
        self.assertEqual([face for face in found if face[3] and face[4]], [])

    def test_faces_tell_which_of_three_wishes_hold(self):
        for book in all_books()[::173]:
            held = model_held(book)
            found = faces(book)
            self.assertEqual("steady" in held, not any(took and dropped for _, _, _, took, dropped in found))
            self.assertEqual("honest" in held, not any(took and not decided for _, _, decided, took, _ in found))
            self.assertEqual("kept" in held, not any(decided and dropped for _, _, decided, _, dropped in found))

    def test_the_list_is_new_and_equal_books_have_equal_ones(self):
        book = sample_book(answers=["no", "yes"])
        found = faces(book)
        again = list(found)
        spoil(found)
        self.assertEqual(exactly(faces(book)), exactly(again))
        self.assertEqual(exactly(faces(sample_book(answers=("yes", "no")))), exactly(again))

    def test_a_book_of_one_that_was_asked_before(self):
        book = presumed_no()
        for record in RECORDS:
            for word in WORDS:
                before = faces(book)
                other = book.with_word(record, word)
                self.assertEqual(faces(other), sorted(told_faces(other)))
                self.assertEqual(faces(book), before)

    def test_no_book(self):
        for wrong in any_values():
            if not isinstance(wrong, Book):
                self.assertEqual(error_of(faces, wrong), ("BadBook", "book"))


class Alone(unittest.TestCase):
    def test_against_a_search_of_the_tests_own(self):
        seen = set()
        for one, other in drawn_pairs(60):
            wanted = sorted(told_faces(one) - told_faces(other))
            self.assertEqual(exactly(alone(one, other)), exactly(wanted))
            seen.add(bool(wanted))
        self.assertEqual(seen, {False, True})

    def test_of_a_book_and_itself(self):
        for book in all_books()[::307]:
            self.assertEqual(exactly(alone(book, book)), exactly([]))
            self.assertEqual(alone(book, changed(book)), [])

    def test_of_books_that_differ_in_one_thing(self):
        # A lazy ready can be lost when the chair has decided yes, and the house lets the deal go.
        self.assertIn(("yes", "empty", True, False, True), alone(presumed_no(ready="lazy"), presumed_no()))
        self.assertEqual(alone(presumed_no(), presumed_no(ready="lazy")), [])
        # Without an answer awaited the chair forgets a yes, and presumes no of it.
        self.assertIn(("gone", "no", True, False, True), alone(presumed_no(answers=[]), presumed_no()))
        self.assertEqual(alone(presumed_no(), presumed_no(answers=[])), [])
        # A chair that presumes yes has a house carry out what was not decided.
        self.assertIn(("gone", "yes", False, True, False), alone(presumed_no(presume="yes"), presumed_no()))
        self.assertEqual(alone(other=presumed_no(presume="yes"), one=presumed_no(presume="wait")), [])

    def test_the_list_is_new(self):
        one, other = presumed_no(ready="lazy"), presumed_no()
        found = alone(one, other)
        again = list(found)
        spoil(found)
        self.assertEqual(alone(one, other), again)

    def test_lazy_records_that_are_forced_instead(self):
        draw = Random(91)
        for book in (*all_books()[5::211], *lazy_books()):
            lazy = [record for record in RECORDS if getattr(book, record) == "lazy"]
            lots = [lot for length in range(len(lazy) + 1) for lot in combinations(lazy, length)]
            for lot in draw.sample(lots, min(4, len(lots))):
                forced = changed(book, **{record: "forced" for record in lot})
                self.assertEqual(alone(forced, book), [])
                self.assertIsNone(run_alone(forced, book))

    def test_errors_in_their_order(self):
        for call in (alone, run_alone):
            for wrong in any_values():
                if not isinstance(wrong, Book):
                    self.assertEqual(error_of(call, wrong, sample_book()), ("BadBook", "one"))
                    self.assertEqual(error_of(call, wrong, wrong), ("BadBook", "one"))
                    self.assertEqual(error_of(call, sample_book(), wrong), ("BadBook", "other"))


class RunAlone(unittest.TestCase):
    def test_as_short_as_any(self):
        seen = set()
        for one, other in drawn_pairs(40):
            graph = model_graph(one)
            far = lengths(graph, lambda deed: 1)
            lone = told_faces(one) - told_faces(other)
            run = run_alone(one, other)
            seen.add(run is None)
            if not lone:
                self.assertIsNone(run)
                continue
            self.assertIs(type(run), list)
            self.assertTrue(is_run(one, 1, run))
            self.assertIn(told_face(led_to(one, 1, run)), lone)
            self.assertEqual(len(run), min(far[standing] for standing in graph if told_face(standing) in lone))
        self.assertEqual(seen, {False, True})

    def test_one_that_is_plain(self):
        run = run_alone(other=presumed_no(), one=presumed_no(ready="lazy"))
        # The house falls before the chair decides, or behind it.
        self.assertIn(("fall", 0, 0), run)
        self.assertEqual(sorted(run), [("ask",), ("decide", "yes"), ("fall", 0, 0), ("vote", 0)])

    def test_of_a_book_and_itself(self):
        for book in all_books()[::307]:
            self.assertIsNone(run_alone(book, book))

    def test_equal_books_have_equal_runs_that_are_new(self):
        run = run_alone(presumed_no(ready="lazy"), presumed_no())
        again = list(run)
        spoil(run)
        self.assertEqual(run_alone(presumed_no(ready="lazy"), presumed_no()), again)


class Presumptions(unittest.TestCase):
    def test_against_a_search_of_the_tests_own(self):
        rows = [row for length in (1, 2, 3, 4) for row in permutations(WISHES, length)]
        seen = set()
        for at, book in enumerate((*all_books()[7::149], *[make() for make in KNOWN])):
            held = {word: set(model_held(changed(book, presume=word))) for word in PRESUMPTIONS}
            for row in rows[at % 5 :: 5]:
                wanted = [word for word in ("no", "wait", "yes") if set(row) <= held[word]]
                self.assertEqual(exactly(presumptions(book, row)), exactly(wanted))
                self.assertEqual(exactly(presumptions(book, list(row))), exactly(wanted))
                seen.add(tuple(wanted))
        for wanted in ((), ("no", "wait", "yes"), ("wait",), ("no",)):
            self.assertIn(wanted, seen)

    def test_some_that_are_plain(self):
        self.assertEqual(presumptions(presumed_no(), ["kept", "honest"]), ["no", "wait"])
        self.assertEqual(presumptions(presumed_no(), ["quiet", "honest", "kept", "steady"]), ["no"])
        self.assertEqual(presumptions(wishes=("honest", "kept"), book=presumed_yes()), ["wait", "yes"])
        # A house that has lost that it said yes lets the deal go, whatever is presumed.
        self.assertEqual(presumptions(sample_book(ready="none"), ["steady", "kept"]), [])

    def test_its_own_word_has_no_meaning(self):
        for book in all_books()[::401]:
            for wishes in (["honest"], ["kept", "honest"], ["steady", "quiet"], list(WISHES)):
                found = [presumptions(changed(book, presume=word), wishes) for word in PRESUMPTIONS]
                self.assertEqual(found, [found[0]] * 3)
                self.assertEqual(found[0], sorted(found[0]))

    def test_the_order_of_the_wishes_has_no_meaning_and_they_stay(self):
        for wishes in permutations(WISHES):
            passed = list(wishes)
            self.assertEqual(presumptions(presumed_no(), passed), ["no"])
            self.assertEqual(passed, list(wishes))

    def test_the_list_is_new(self):
        spoil(presumptions(presumed_no(), ["kept"]))
        self.assertEqual(presumptions(presumed_no(), ["kept"]), ["no", "wait", "yes"])

    def test_errors_in_their_order(self):
        for wrong in any_values():
            if not isinstance(wrong, Book):
                for wishes in (["kept"], [], None, ["x"]):
                    self.assertEqual(error_of(presumptions, wrong, wishes), ("BadBook", "book"))
            if not isinstance(wrong, (list, tuple)):
                self.assertEqual(error_of(presumptions, sample_book(), wrong), ("BadWish", None))
            for wishes in ([wrong], ["kept", wrong], ("steady", "quiet", wrong, "x"), [wrong, "kept", "kept"]):
                name, wish = error_of(presumptions, sample_book(), wishes)
                self.assertEqual((name, exactly(wish)), ("BadWish", exactly(wrong)))
        self.assertEqual(error_of(presumptions, sample_book(), []), ("BadWish", None))
        self.assertEqual(error_of(presumptions, sample_book(), ()), ("BadWish", None))
        self.assertEqual(error_of(presumptions, sample_book(), ["kept", "quiet", "kept", "x"]), ("BadWish", "kept"))
        self.assertEqual(error_of(presumptions, sample_book(), ["kept", "x", "kept"]), ("BadWish", "x"))


if __name__ == "__main__":
    unittest.main()
