"""Point 10, class Book, with points 3 to 5 as far as they speak of it."""

import unittest
from itertools import combinations, permutations, product

from presumebooks.books import Book
from presumebooks.errors import BadBook, BadRecord
from tests.samples import CHAIR, HOUSE, PARTS, WORDS, any_values, exactly, sample_book, spoil

RECORDS = ("begin", "yes", "no", "ready", "agreed", "refused")
PRESUMPTIONS = ("no", "wait", "yes")


def parts_of(book):
    """The eight parts of a book, in their order."""
    return tuple([getattr(book, part) for part in PARTS])


class Making(unittest.TestCase):
    def test_by_position(self):
        book = Book("none", "lazy", "forced", "lazy", "none", "forced", ["no"], "wait")
        self.assertEqual(parts_of(book), ("none", "lazy", "forced", "lazy", "none", "forced", ("no",), "wait"))

    def test_by_name(self):
        book = Book(
            presume="yes", answers=("yes",), refused="lazy", agreed="forced", ready="none", no="lazy", yes="none",
            begin="forced",
        )
        self.assertEqual(parts_of(book), ("forced", "none", "lazy", "none", "forced", "lazy", ("yes",), "yes"))

    def test_defaults(self):
        book = Book("lazy", "lazy", "lazy", "lazy", "lazy", "lazy")
        self.assertEqual(exactly(book.answers), exactly(()))
        self.assertEqual(book.presume, "no")

    def test_each_word_at_each_record(self):
        for words in product(WORDS, repeat=6):
            self.assertEqual(parts_of(Book(*words)), (*words, (), "no"))

    def test_each_presumption(self):
        for presume in PRESUMPTIONS:
            self.assertEqual(sample_book(presume=presume).presume, presume)

    def test_answers_in_any_order_as_a_list_or_a_tuple(self):
        for length in range(3):
            for answers in permutations(("no", "yes"), length):
                for passed in (list(answers), answers):
                    self.assertEqual(exactly(sample_book(answers=passed).answers), exactly(tuple(sorted(answers))))

    def test_what_is_passed_may_be_changed_afterwards(self):
        answers = ["yes", "no"]
        book = sample_book(answers=answers)
        self.assertEqual(answers, ["yes", "no"])
        answers.clear()
        self.assertEqual(book.answers, ("no", "yes"))
        self.assertEqual(book, sample_book(answers=["no", "yes"]))

    def test_attributes_are_set_on_the_object(self):
        for name in (*PARTS, "forced"):
            self.assertIn(name, vars(sample_book()))


class Refused(unittest.TestCase):
    def refuse(self, part, **changed):
        with self.assertRaises(BadBook) as caught:
            sample_book(**changed)
        self.assertEqual(caught.exception.part, part)

    def test_a_word_that_is_none(self):
        for record in RECORDS:
            for wrong in (*any_values(), "yes", "no", "wait", "force", "None", ["lazy"], ("lazy",)):
                self.refuse(record, **{record: wrong})

    def test_answers_that_are_no_list_of_different_outcomes(self):
        wrong = [
            None, 0, True, "", "no", "yes", {}, {"no": True}, {"yes"}, sample_book(),
            ["no", "no"], ("yes", "yes"), ["no", "yes", "no"], ["no", "yes", "yes"], ["wait"], ["no", "wait"],
            [None], [True], [1], ["yes", 0], [["yes"]], (("no",),), ["yes", {}], [sample_book()], ["noyes"], [""],
        ]
        for answers in wrong:
            self.refuse("answers", answers=answers)

    def test_a_presumption_that_is_none(self):
        for wrong in (*any_values(), "none", "lazy", "forced", ["no"], ("yes",), "Wait"):
            self.refuse("presume", presume=wrong)

    def test_the_first_wrong_part_is_told(self):
        for length in range(1, 9):
            for lot in combinations(PARTS, length):
                self.refuse(lot[0], **{part: "wrong" for part in lot})

    def test_what_is_passed_is_not_changed(self):
        answers = ["yes", "yes"]
        self.refuse("answers", answers=answers)
        self.assertEqual(answers, ["yes", "yes"])


class Forced(unittest.TestCase):
    def test_all_books_by_words(self):
        for words in product(WORDS, repeat=6):
            forced = tuple(sorted([record for record, word in zip(RECORDS, words) if word == "forced"]))
            self.assertEqual(exactly(Book(*words).forced), exactly(forced))

    def test_ascending(self):
        book = Book("forced", "forced", "forced", "forced", "forced", "forced")
        self.assertEqual(book.forced, ("agreed", "begin", "no", "ready", "refused", "yes"))

    def test_empty(self):
        self.assertEqual(Book("none", "lazy", "none", "lazy", "none", "lazy").forced, ())


class Word(unittest.TestCase):
    def test_of_each_record(self):
        for words in product(WORDS, repeat=6):
            book = Book(*words)
            self.assertEqual(tuple([book.word(record) for record in RECORDS]), words)

    def test_by_name(self):
        self.assertEqual(sample_book().word(record="yes"), "forced")

    def test_no_record(self):
        for wrong in (*any_values(), "answers", "presume", "forced", "lazy", "wait", "Begin"):
            before = exactly(wrong)
            with self.assertRaises(BadRecord) as caught:
                sample_book().word(wrong)
            self.assertEqual(exactly(caught.exception.record), before)
            self.assertEqual(exactly(wrong), before)

    def test_the_error_keeps_what_was_passed(self):
        wrong = ["begin", ["yes"]]
        with self.assertRaises(BadRecord) as caught:
            sample_book().word(wrong)
        spoil(wrong)
        self.assertEqual(caught.exception.record, ["begin", ["yes"]])


class WithWord(unittest.TestCase):
    def test_each_word_of_each_record(self):
        book = sample_book(answers=["no"], presume="wait")
        before = exactly(book)
        for record, word in product(RECORDS, WORDS):
            other = book.with_word(record, word)
            self.assertIsInstance(other, Book)
            self.assertEqual(parts_of(other), parts_of(sample_book(answers=["no"], presume="wait", **{record: word})))
            self.assertEqual(other.word(record), word)
            self.assertEqual(other.forced, tuple(sorted([one for one in RECORDS if other.word(one) == "forced"])))
            self.assertEqual(exactly(book), before)
            self.assertEqual(book.forced, ("ready", "yes"))

    def test_by_name(self):
        self.assertEqual(sample_book().with_word(word="none", record="yes"), sample_book(yes="none"))

    def test_no_record_comes_first(self):
        book = sample_book()
        for wrong in (*any_values(), "answers", "presume", "forced"):
            for word in ("lazy", "wrong", None):
                with self.assertRaises(BadRecord) as caught:
                    book.with_word(wrong, word)
                self.assertEqual(exactly(caught.exception.record), exactly(wrong))
        self.assertEqual(book, sample_book())

    def test_no_word(self):
        book = sample_book()
        for record in RECORDS:
            for wrong in (*any_values(), "yes", "begin", "wait", ["lazy"], ("forced",)):
                with self.assertRaises(BadBook) as caught:
                    book.with_word(record, wrong)
                self.assertEqual(caught.exception.part, record)
        self.assertEqual(book, sample_book())


class WithForced(unittest.TestCase):
    def test_each_lot(self):
        book = sample_book(answers=["no", "yes"], presume="yes")
        before = exactly(book)
        for length, rest in product(range(7), ("none", "lazy")):
            for lot in combinations(RECORDS, length):
                words = ["forced" if record in lot else rest for record in RECORDS]
                for passed in (list(lot), lot, tuple(reversed(lot))):
                    other = book.with_forced(passed, rest)
                    self.assertIsInstance(other, Book)
                    self.assertEqual(parts_of(other), (*words, ("no", "yes"), "yes"))
                    self.assertEqual(other.forced, tuple(sorted(lot)))
        self.assertEqual(exactly(book), before)

    def test_by_name(self):
        book = sample_book().with_forced(rest="none", lot=["no"])
        self.assertEqual(book, Book("none", "none", "forced", "none", "none", "none", ["yes"], "no"))

    def test_what_is_passed_may_be_changed_afterwards(self):
        lot = ["yes", "begin"]
        book = sample_book().with_forced(lot, "lazy")
        self.assertEqual(lot, ["yes", "begin"])
        lot.append("no")
        self.assertEqual(book.forced, ("begin", "yes"))

    def test_no_list(self):
        for wrong in any_values():
            if not isinstance(wrong, (list, tuple)):
                for rest in ("lazy", "forced", None):
                    with self.assertRaises(BadRecord) as caught:
                        sample_book().with_forced(wrong, rest)
                    self.assertIsNone(caught.exception.record)

    def test_the_first_item_that_is_no_record(self):
        for wrong in any_values():
            for rest in ("none", "forced", None):
                for lot in ([wrong], ("yes", wrong), ["begin", "yes", wrong, "x", "yes"], [wrong, "no", "no"]):
                    with self.assertRaises(BadRecord) as caught:
                        sample_book().with_forced(lot, rest)
                    self.assertEqual(exactly(caught.exception.record), exactly(wrong))

    def test_the_first_item_that_stands_there_before(self):
        for lot, told in (
            (["yes", "yes"], "yes"),
            (("no", "begin", "begin", "no"), "begin"),
            (["no", "begin", "no", "begin"], "no"),
            (["ready", "agreed", "agreed", "wrong"], "agreed"),
            (["ready", "wrong", "ready"], "wrong"),
            ([*RECORDS, "refused"], "refused"),
        ):
            for rest in ("none", "lazy", "forced", 0):
                with self.assertRaises(BadRecord) as caught:
                    sample_book().with_forced(lot, rest)
                self.assertEqual(caught.exception.record, told)

    def test_no_rest(self):
        book = sample_book()
        for wrong in (*any_values(), "forced", "yes", ["lazy"], ("none",)):
            for lot in ([], ["yes"], RECORDS):
                with self.assertRaises(BadBook) as caught:
                    book.with_forced(lot, wrong)
                self.assertEqual(caught.exception.part, "rest")
        self.assertEqual(book, sample_book())


class Equality(unittest.TestCase):
    def test_equal_parts(self):
        self.assertTrue(sample_book() == sample_book())
        self.assertFalse(sample_book() != sample_book())
        self.assertTrue(sample_book(answers=["yes", "no"]) == sample_book(answers=("no", "yes")))
        self.assertTrue(sample_book().with_word("yes", "lazy") == sample_book(yes="lazy"))

    def test_each_part_alone(self):
        choices = {record: WORDS for record in (*CHAIR, *HOUSE)}
        choices["answers"] = ((), ("no",), ("yes",), ("no", "yes"))
        choices["presume"] = PRESUMPTIONS
        for part, values in choices.items():
            for one, other in product(values, repeat=2):
                first, second = sample_book(**{part: one}), sample_book(**{part: other})
                self.assertIs(first == second, one == other, part)
                self.assertIs(first != second, one != other, part)

    def test_no_value_of_another_kind(self):
        class Alike:
            def __eq__(self, other):
                return True

        book = sample_book()
        others = [value for value in any_values() if not isinstance(value, Book)]
        for other in (*others, parts_of(book), list(parts_of(book)), vars(book), Alike()):
            self.assertIs(book == other, False)
            self.assertIs(book != other, True)


class Iteration(unittest.TestCase):
    def test_it_is_refused(self):
        book = sample_book()
        for use in (iter, list, tuple, dict, sorted, lambda thing: [one for one in thing], lambda thing: "yes" in thing):
            with self.assertRaises(TypeError):
                use(book)


if __name__ == "__main__":
    unittest.main()
