"""Point 91: is_outside, parting and do_alike."""

import unittest
from itertools import combinations, product
from random import Random

from presumebooks.books import Book
from presumebooks.likeness import do_alike, is_outside, parting
from tests.model import model_first, model_graph, model_moves, model_run
from tests.samples import (
    ALL_ANSWERS, PARTS, PRESUMPTIONS, RECORDS, WORDS, all_books, any_values, error_of, exactly, nothing_presumed,
    presumed_no, presumed_yes, sample_book, spoil,
)

KNOWN = (presumed_no, presumed_yes, nothing_presumed)


def lazy_books():
    """All books whose records are all lazy: with these a fall can leave the most."""
    return [Book(*["lazy"] * 6, answers, presume) for answers in ALL_ANSWERS for presume in PRESUMPTIONS]


def some_books():
    """Books of all kinds."""
    return [*all_books()[::223], *lazy_books(), *[make() for make in KNOWN]]


def changed(book, **parts):
    """A book with some parts changed, made anew."""
    return Book(**{**{part: getattr(book, part) for part in PARTS}, **parts})


def told_sight(deed):
    """What is seen of a deed, told a second time."""
    return {"down": ("down",), "fall": ("fall", 0)}.get(deed[0], deed)


def told_outside(run):
    """The outside of a run."""
    return [told_sight(deed) for deed in run]


class Groups:
    """The sets of standings that may stand behind what was seen, by the test's own search."""

    def __init__(self, book):
        self.graph = model_graph(book)
        self.first = frozenset([model_first(1)])

    def sights(self, group):
        """All that can be seen next."""
        return sorted({told_sight(deed) for standing in group for deed in self.graph[standing]})

    def behind(self, group, sight):
        """The set behind what is seen next."""
        return frozenset(
            other for standing in group for deed, other in self.graph[standing].items() if told_sight(deed) == sight
        )

    def has(self, thing):
        """Whether a list of sights by their form is an outside."""
        group = self.first
        for sight in thing:
            group = self.behind(group, sight)
        return bool(group)


def parting_length(one, other):
    """The least length of an outside that the first one has and the second one has not, None if there is none."""
    ours, theirs = Groups(one), Groups(other)
    layer = [(ours.first, theirs.first)]
    seen = set(layer)
    length = 0
    while layer:
        if not all(group for _, group in layer):
            return length
        coming = []
        for here, there in layer:
            for sight in ours.sights(here):
                pair = (ours.behind(here, sight), theirs.behind(there, sight))
                if pair not in seen:
                    seen.add(pair)
                    coming.append(pair)
        layer = coming
        length += 1
    return None


def all_sights():
    """All that can be seen of deeds with one house, by their form alone."""
    words = [("ask",), ("forget",), ("down",), ("fall", 0), ("decide", "no"), ("decide", "yes")]
    words.extend([(word, 0) for word in ("vote", "refuse", "tell", "clear")])
    return [*words, *[(word, 0, outcome) for word in ("hear", "answer") for outcome in ("no", "yes")]]


class IsOutside(unittest.TestCase):
    def judged(self, book, thing, wanted):
        before = exactly(thing)
        self.assertIs(is_outside(book, thing), wanted, thing)
        self.assertEqual(exactly(thing), before)

    def test_those_of_drawn_runs(self):
        for turn, book in enumerate(some_books()):
            for length in (1, 7, 20, 60, 120):
                run, _ = model_run(book, 1, length, turn)
                self.judged(book, told_outside(run), True)
                self.judged(book, tuple(told_outside(run)), True)

    def test_the_empty_one(self):
        for book in some_books()[::5]:
            self.judged(book, [], True)
            self.judged(book, (), True)

    def test_changed_ones_against_sets_of_standings(self):
        draw = Random(911)
        seen = {}
        for turn, book in enumerate(some_books()):
            groups = Groups(book)
            for length in (4, 9, 16):
                told = told_outside(model_run(book, 1, length, turn * 3 + length)[0])
                for _ in range(5):
                    at, other = draw.randrange(length), draw.randrange(length)
                    swapped = list(told)
                    swapped[at], swapped[other] = told[other], told[at]
                    for kind, thing in enumerate((
                        told[:at] + told[at + 1 :], told[:at] + [told[at]] * 2 + told[at + 1 :], swapped,
                        told[:at] + [draw.choice(all_sights())] + told[at:],
                    )):
                        wanted = groups.has(thing)
                        self.judged(book, thing, wanted)
                        seen.setdefault(kind, set()).add(wanted)
        self.assertEqual(seen, {kind: {False, True} for kind in range(4)})

    def test_all_that_can_be_seen_next(self):
        # Behind falls of lazy records more than one standing is possible, and each of them counts.
        draw = Random(914)
        for book in lazy_books():
            groups = Groups(book)
            most = 0
            for _ in range(6):
                group, told = groups.first, []
                # What is done ahead is drawn beyond falls, which leave little to be seen.
                for sight in (("ask",), ("vote", 0), draw.choice([("decide", "no"), ("decide", "yes")])):
                    group, told = groups.behind(group, sight), [*told, sight]
                for _ in range(8):
                    for sight in all_sights():
                        self.judged(book, [*told, sight], bool(groups.behind(group, sight)))
                    told.append(draw.choice(groups.sights(group)))
                    group = groups.behind(group, told[-1])
                    most = max(most, len(group))
            self.assertGreater(most, 2)

    def test_what_is_left_behind_a_fall_is_seen_by_what_can_be_done_later(self):
        book = Book(*["lazy"] * 6, ["yes"], "wait")
        told = [("ask",), ("vote", 0), ("decide", "yes"), ("down",)]
        # The yes is left, or the begin alone, or nothing.
        self.judged(book, [*told, ("tell", 0), ("hear", 0, "yes")], True)
        self.judged(book, [*told, ("tell", 0), ("hear", 0, "no")], True)
        self.judged(book, [*told, ("tell", 0), ("hear", 0, "no"), ("clear", 0), ("tell", 0)], False)
        self.judged(book, [*told, ("tell", 0), ("hear", 0, "yes"), ("down",), ("tell", 0)], False)
        self.judged(book, [*told, ("tell", 0), ("hear", 0, "no"), ("forget",)], True)
        self.judged(book, [*told, ("tell", 0), ("hear", 0, "yes"), ("forget",)], False)
        self.judged(book, [*told, ("tell", 0), ("hear", 0, "yes"), ("answer", 0, "yes"), ("forget",)], True)
        self.judged(book, [*told, ("forget",)], True)
        self.judged(book, [*told, ("decide", "yes")], False)

    def test_a_number_of_records_left(self):
        book = presumed_no(begin="lazy")
        run = [("ask",), ("vote", 0), ("fall", 0, 1), ("down", 1), ("tell", 0)]
        told = told_outside(run)
        self.judged(book, told, True)
        for at in (2, 3):
            for left in range(3):
                self.judged(book, [*told[:at], (*told[at], left), *told[at + 1 :]], False)
        self.judged(book, run, False)

    def test_a_deed_of_another_house(self):
        told = [("ask",), ("vote", 0), ("decide", "yes"), ("tell", 0), ("hear", 0, "yes"), ("fall", 0)]
        self.judged(presumed_no(), told, True)
        for at in (1, 3, 4, 5):
            for wrong in (1, -1, 2, True, False, "0", None):
                self.judged(presumed_no(), [*told[:at], (told[at][0], wrong, *told[at][2:]), *told[at + 1 :]], False)

    def test_lists_in_the_place_of_tuples(self):
        told = [("ask",), ("vote", 0), ("down",), ("fall", 0)]
        self.judged(presumed_no(), told, True)
        for at in range(4):
            self.judged(presumed_no(), [*told[:at], list(told[at]), *told[at + 1 :]], False)

    def test_parts_too_few_and_too_many(self):
        told = [("ask",), ("vote", 0), ("down",), ("fall", 0)]
        for at in range(4):
            self.judged(presumed_no(), [*told[:at], (*told[at], 0), *told[at + 1 :]], False)
            self.judged(presumed_no(), [*told[:at], told[at][:-1], *told[at + 1 :]], False)

    def test_any_value(self):
        for wrong in any_values():
            if wrong not in ([], ()):
                self.judged(sample_book(), wrong, False)
            self.judged(sample_book(), [wrong], False)
            self.judged(sample_book(), [("ask",), wrong], False)
            self.judged(sample_book(), [("ask",), ("vote", wrong)], wrong == 0 and type(wrong) is int)
            self.judged(sample_book(), [("ask",), (wrong, 0)], False)
        self.judged(sample_book(), {("ask",): 0}, False)
        self.judged(sample_book(), "ask", False)

    def test_no_book_comes_first(self):
        for wrong in any_values():
            if not isinstance(wrong, Book):
                for thing in ([], [("ask",)], None):
                    self.assertEqual(error_of(is_outside, wrong, thing), ("BadBook", "book"))
        self.assertIs(is_outside(thing=[("ask",)], book=sample_book()), True)


def drawn_pairs(many):
    """Pairs of books of all kinds, also of books that differ in one thing, both ways."""
    draw = Random(912)
    books = all_books()
    pairs = [tuple(draw.sample(books, 2)) for _ in range(many)]
    for book in (*[make() for make in KNOWN], *draw.sample(books, many // 8), *lazy_books()[::4]):
        near = [changed(book, **{record: draw.choice(WORDS)}) for record in RECORDS]
        near.append(changed(book, answers=draw.choice(ALL_ANSWERS)))
        near.append(changed(book, presume=draw.choice(PRESUMPTIONS)))
        pairs.extend([pair for other in near for pair in ((book, other), (other, book))])
    return pairs


class Parting(unittest.TestCase):
    def test_as_short_as_any(self):
        seen = set()
        for one, other in drawn_pairs(24):
            length = parting_length(one, other)
            found = parting(one, other)
            seen.add(length)
            if length is None:
                self.assertIsNone(found)
                continue
            self.assertIs(type(found), list)
            self.assertEqual(len(found), length)
            for groups, wanted in ((Groups(one), True), (Groups(other), False)):
                self.assertIs(groups.has(found), wanted)
            self.assertIs(is_outside(one, found), True)
            self.assertIs(is_outside(other, found), False)
            self.assertEqual(exactly(parting(changed(one), changed(other))), exactly(found))
        self.assertGreater(len(seen), 5)
        self.assertIn(None, seen)

    def test_one_that_is_plain(self):
        # With nothing presumed a chair that has lost all tells nothing.
        self.assertEqual(parting(presumed_no(), presumed_no(presume="wait")), [("ask",), ("down",), ("tell", 0)])
        self.assertIsNone(parting(other=presumed_no(), one=presumed_no(presume="wait")))

    def test_against_all_short_outsides(self):
        books = [presumed_no(), presumed_yes(), presumed_no(begin="lazy"), sample_book(refused="lazy")]
        books.extend(lazy_books()[:3])
        groups = [Groups(book) for book in books]
        for (at, one), (to, other) in product(enumerate(books), repeat=2):
            rows = [[]]
            for _ in range(4):
                rows = [[*row, sight] for row in rows for sight in all_sights() if groups[at].has([*row, sight])]
                lone = [row for row in rows if not groups[to].has(row)]
                if lone:
                    self.assertIn(parting(one, other), lone)
                    break
            else:
                found = parting(one, other)
                self.assertTrue(found is None or len(found) > 4)

    def test_lazy_records_that_are_forced_instead(self):
        draw = Random(913)
        for book in (*all_books()[4::149], *lazy_books()):
            lazy = [record for record in RECORDS if getattr(book, record) == "lazy"]
            lots = [lot for length in range(len(lazy) + 1) for lot in combinations(lazy, length)]
            for lot in draw.sample(lots, min(5, len(lots))):
                self.assertIsNone(parting(changed(book, **{record: "forced" for record in lot}), book))

    def test_a_book_and_itself(self):
        for book in some_books():
            self.assertIsNone(parting(book, book))
            self.assertIsNone(parting(book, changed(book)))

    def test_a_book_made_of_one_that_was_asked_before(self):
        book = presumed_no()
        for record, word in product(RECORDS, WORDS):
            parting(book, presumed_yes())
            other = book.with_word(record, word)
            for one, two in ((book, other), (other, book)):
                found = parting(one, two)
                self.assertEqual(None if found is None else len(found), parting_length(one, two))

    def test_the_list_is_new(self):
        found = parting(presumed_no(), presumed_yes())
        again = list(found)
        spoil(found)
        self.assertEqual(parting(presumed_no(), presumed_yes()), again)

    def test_errors_in_their_order(self):
        for call in (parting, do_alike):
            for wrong in any_values():
                if not isinstance(wrong, Book):
                    self.assertEqual(error_of(call, wrong, sample_book()), ("BadBook", "one"))
                    self.assertEqual(error_of(call, wrong, wrong), ("BadBook", "one"))
                    self.assertEqual(error_of(call, sample_book(), wrong), ("BadBook", "other"))


class DoAlike(unittest.TestCase):
    def test_both_ways(self):
        seen = set()
        for one, other in drawn_pairs(16):
            wanted = parting_length(one, other) is None and parting_length(other, one) is None
            self.assertIs(do_alike(one, other), wanted)
            self.assertIs(do_alike(other, one), wanted)
            seen.add(wanted)
        self.assertEqual(seen, {False, True})

    def test_one_way_alone_is_not_enough(self):
        self.assertIs(do_alike(presumed_no(), presumed_no(presume="wait")), False)
        self.assertIs(do_alike(other=presumed_no(), one=presumed_no(presume="wait")), False)

    def test_books_that_do_alike_though_they_are_not_equal(self):
        found = []
        for book in (presumed_no(), presumed_yes(), nothing_presumed()):
            for record, word in product(RECORDS, WORDS):
                other = book.with_word(record, word)
                if other != book and do_alike(book, other):
                    found.append((book, other))
        for one, other in found:
            self.assertIsNone(parting_length(one, other))
            self.assertIsNone(parting_length(other, one))
        # A chair that has lost its no has it by its begin; one that has lost its begin can only do less.
        self.assertIn((presumed_yes(), presumed_yes(no="lazy")), found)
        self.assertIn((nothing_presumed(), nothing_presumed(begin="lazy")), found)

    def test_equal_books(self):
        for book in some_books()[::4]:
            self.assertIs(do_alike(book, changed(book)), True)


if __name__ == "__main__":
    unittest.main()
