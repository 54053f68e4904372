"""Point 120: book_text, read_book, run_text and read_run."""

import unittest
from itertools import product

from presumebooks.books import Book
from presumebooks.texts import book_text, read_book, read_run, run_text
from tests.model import deeds_by_form, model_run
from tests.samples import all_books, any_values, error_of, exactly, sample_book, spoil

LINES = (
    "begin none", "yes forced", "no lazy", "ready forced", "agreed lazy", "refused none", "answers yes", "presume no",
)
OUTCOMES = ("no", "yes")
# The deeds by their form, with the numbers left out.
NUMBERED = ("vote", "refuse", "tell", "clear", "down")
HEARD = ("hear", "answer")
WRONG_NUMBERS = ("00", "01", "007", "100", "123", "-1", "+1", "1.", "0x", "one", "", "1 ", "0b", "1_0", "True")


def text_of(lines):
    """A text of these lines, each ended."""
    return "".join([line + "\n" for line in lines])


def all_deeds():
    """All deeds by their form, with numbers from 0 to 99."""
    deeds = [("ask",), ("forget",), ("decide", "no"), ("decide", "yes")]
    for number in range(100):
        deeds.extend([(word, number) for word in NUMBERED])
        deeds.extend([(word, number, outcome) for word in HEARD for outcome in OUTCOMES])
        deeds.extend([("fall", number, left) for left in range(100)])
    return deeds


class BookText(unittest.TestCase):
    def test_one_that_is_plain(self):
        self.assertEqual(book_text(book=sample_book()), text_of(LINES))
        book = Book("lazy", "none", "forced", "none", "none", "lazy", ["yes", "no"], "wait")
        self.assertEqual(book_text(book), (
            "begin lazy\nyes none\nno forced\nready none\nagreed none\nrefused lazy\nanswers no yes\npresume wait\n"
        ))
        self.assertEqual(book_text(sample_book(answers=[])).split("\n")[6], "answers")

    def test_back_and_forth(self):
        books = all_books()
        texts = [book_text(book) for book in books[::3]]
        self.assertEqual(len(set(texts)), len(texts))
        for book, text in zip(books[::3], texts):
            again = read_book(text)
            self.assertEqual(exactly(again), exactly(book))
            self.assertEqual(book_text(again), text)

    def test_no_book(self):
        for wrong in any_values():
            if not isinstance(wrong, Book):
                self.assertEqual(error_of(book_text, wrong), ("BadBook", "book"))


class ReadBook(unittest.TestCase):
    def wrong(self, text, line):
        self.assertEqual(exactly(error_of(read_book, text)), exactly(("BadText", line)), text)

    def test_one_that_is_plain(self):
        self.assertEqual(exactly(read_book(text=text_of(LINES))), exactly(sample_book()))

    def test_no_text(self):
        for wrong in any_values():
            self.wrong(wrong, 0)
        self.wrong(list(LINES), 0)
        self.wrong(sample_book(), 0)

    def test_lines_that_are_missing(self):
        self.wrong("", 0)
        for length in range(8):
            self.wrong(text_of(LINES[:length]), length)

    def test_a_line_left_out(self):
        for at in range(8):
            self.wrong(text_of([*LINES[:at], *LINES[at + 1 :]]), at)

    def test_a_line_twice(self):
        for at in range(8):
            self.wrong(text_of([*LINES[: at + 1], *LINES[at:]]), at + 1)

    def test_lines_exchanged(self):
        for at, other in product(range(8), repeat=2):
            if at < other:
                lines = list(LINES)
                lines[at], lines[other] = lines[other], lines[at]
                self.wrong(text_of(lines), at)

    def test_a_line_more(self):
        for more in ("", " ", "presume no", "x", "begin none"):
            self.wrong(text_of([*LINES, more]), 8)
            self.wrong(text_of([*LINES, more, more]), 8)
        self.wrong(text_of(LINES) + "x", 8)
        self.wrong(text_of(LINES) + " ", 8)
        self.wrong("\n" + text_of(LINES), 0)
        for at in range(8):
            self.wrong(text_of([*LINES[:at], "", *LINES[at:]]), at)

    def test_a_sign_or_a_word_more_or_less(self):
        for at, line in enumerate(LINES):
            changed = [line + " ", " " + line, line + "x", "x" + line, line[1:], line + " none", line + " no"]
            changed.extend([line.replace(" ", "  "), line.replace(" ", ""), line.upper(), line.title(), "x " + line])
            changed.extend([line.split(" ")[0], line.split(" ")[1], "", " ", line.replace(" ", " x "), line[:-1]])
            for wrong in changed:
                if (at, wrong) != (6, "answers"):
                    self.wrong(text_of([*LINES[:at], wrong, *LINES[at + 1 :]]), at)

    def test_a_line_feed_that_is_lacking(self):
        for at in range(8):
            self.wrong(text_of(LINES[:at]) + LINES[at], at)
            if at < 7:
                self.wrong(text_of(LINES[:at]) + LINES[at] + text_of(LINES[at + 1 :]), at)

    def test_words_of_other_lines(self):
        for at in range(6):
            for word in ("no", "wait", "yes", "x", "None", "0"):
                self.wrong(text_of([*LINES[:at], f"{LINES[at].split(' ')[0]} {word}", *LINES[at + 1 :]]), at)
        for word in ("none", "lazy", "forced", "x", "maybe", "no yes"):
            self.wrong(text_of([*LINES[:7], f"presume {word}"]), 7)

    def test_outcomes_out_of_order_or_twice(self):
        wrong = ["yes no", "no no", "yes yes", "no yes no", "no yes yes", "wait", "no wait", "lazy", "no,yes", " no"]
        for outcomes in wrong:
            self.wrong(text_of([*LINES[:6], f"answers {outcomes}", LINES[7]]), 6)
        for outcomes, wanted in (("", ()), (" no", ("no",)), (" yes", ("yes",)), (" no yes", ("no", "yes"))):
            self.assertEqual(read_book(text_of([*LINES[:6], f"answers{outcomes}", LINES[7]])).answers, wanted)

    def test_the_first_wrong_line_counts(self):
        for at in range(8):
            self.wrong(text_of([*LINES[:at], *["x"] * (9 - at)]), at)
            self.wrong(text_of([*LINES[:at], "x"]), at)
            self.wrong(text_of([*LINES[:at], "x", *LINES[at + 1 :]]) + "x", at)


class RunText(unittest.TestCase):
    def test_all_deeds_by_their_form(self):
        deeds = all_deeds()
        for at in range(0, len(deeds), 100):
            row = deeds[at : at + 100]
            before = exactly(row)
            text = run_text(row)
            self.assertEqual(text, text_of([" ".join(map(str, deed)) for deed in row]))
            self.assertEqual(run_text(tuple(row)), text)
            self.assertEqual(exactly(row), before)
            self.assertEqual(exactly(read_run(text)), before)

    def test_one_that_is_plain(self):
        run = [("ask",), ("vote", 0), ("fall", 0, 1), ("decide", "yes"), ("hear", 10, "no"), ("down", 99)]
        self.assertEqual(run_text(run=run), "ask\nvote 0\nfall 0 1\ndecide yes\nhear 10 no\ndown 99\n")
        for none in ([], ()):
            self.assertEqual(run_text(none), "")

    def test_runs_of_books(self):
        for turn, book in enumerate(all_books()[::401]):
            run, _ = model_run(book, turn % 5 + 1, 60, turn)
            self.assertEqual(exactly(read_run(run_text(run))), exactly(run))

    def test_values_that_are_no_list(self):
        for wrong in any_values():
            if not isinstance(wrong, (list, tuple)):
                self.assertEqual(exactly(error_of(run_text, wrong)), exactly(("BadDeed", 0)))

    def test_items_that_have_no_form(self):
        wrong = [*any_values(), *[list(deed) for deed in deeds_by_form(1)], *[(*deed, 0) for deed in deeds_by_form(1)]]
        wrong.extend([deed[:-1] for deed in deeds_by_form(1)])
        for word in NUMBERED:
            wrong.extend([(word, number) for number in (100, -1, True, False, None, "0", "1", 10 ** 30 - 1, (0,), [0])])
        for word in HEARD:
            wrong.extend([(word, number, "no") for number in (100, -1, True, False, None, "0", [0])])
            wrong.extend([(word, 0, outcome) for outcome in ("wait", "", None, True, 0, ["no"], "YES", ("no",))])
        wrong.extend([("fall", 0, left) for left in (100, -1, True, False, None, "0", [0])])
        wrong.extend([("fall", number, 0) for number in (100, -1, True, False, None, "0", [0])])
        wrong.extend([("decide", outcome) for outcome in ("wait", "", None, True, 0, ["no"], "YES", ("no",))])
        wrong.extend([("Ask",), ("undo",), ("swap", sample_book()), ("ask ",), (["ask"],), (("ask",),)])
        wrong.extend([("x", 0), "ask"])
        right = [("ask",), ("vote", 1), ("fall", 0, 2)]
        for one in wrong:
            before = exactly(one)
            for at in range(4):
                for kind in (list, tuple):
                    row = kind([*right[:at], one, *right[at:], None])
                    self.assertEqual(exactly(error_of(run_text, row)), exactly(("BadDeed", at)), one)
            self.assertEqual(exactly(one), before)


class ReadRun(unittest.TestCase):
    def wrong(self, text, line):
        self.assertEqual(exactly(error_of(read_run, text)), exactly(("BadText", line)), text)

    def test_the_empty_one(self):
        self.assertEqual(exactly(read_run("")), exactly([]))

    def test_one_that_is_plain(self):
        found = read_run(text="ask\nvote 0\nfall 0 1\ndecide yes\nhear 10 no\ndown 99\n")
        wanted = [("ask",), ("vote", 0), ("fall", 0, 1), ("decide", "yes"), ("hear", 10, "no"), ("down", 99)]
        self.assertEqual(exactly(found), exactly(wanted))
        spoil(found)
        self.assertEqual(read_run("ask\n"), [("ask",)])

    def test_no_text(self):
        for wrong in any_values():
            if wrong != "":
                self.wrong(wrong, 0)
        self.wrong(["ask"], 0)
        self.wrong([("ask",)], 0)

    def test_lines_that_are_no_deeds(self):
        right = ["ask", "vote 0", "fall 1 12"]
        wrong = ["", " ", "x", "undo", "Ask", "ASK", "ask ", " ask", "ask 0"]
        wrong.extend(["vote", "vote  0", "vote 0 ", "vote 0 0", "votes 0"])
        wrong.extend([f"{word} {number}" for word in NUMBERED for number in WRONG_NUMBERS])
        wrong.extend([f"{word} {number} no" for word in HEARD for number in WRONG_NUMBERS])
        wrong.extend([f"{word} 0 {outcome}" for word in HEARD for outcome in ("wait", "", "No", "0", "yes ", "maybe")])
        wrong.extend([f"fall {number} 0" for number in WRONG_NUMBERS])
        wrong.extend([f"fall 0 {number}" for number in WRONG_NUMBERS])
        wrong.extend(["decide", "decide wait", "decide 0", "decide yes no", "hear yes 0", "hear 0", "forget 0"])
        wrong.extend(["fall 0", "fall"])
        wrong.extend(["down", "down 0 0", "swap", "vote\t0", "vote,0", "('ask',)", "down no", "tell yes"])
        for line in wrong:
            for at in range(4):
                self.wrong(text_of([*right[:at], line, *right[at:]]), at)
                self.wrong(text_of([*right[:at], line, "x"]), at)

    def test_a_line_feed_that_is_lacking(self):
        self.wrong("ask", 0)
        self.wrong("vote 1", 0)
        self.wrong("ask\nvote 0\ndecide yes", 2)
        self.wrong("ask\nx\ndecide yes", 1)
        self.wrong("ask\nask \ndecide yes", 1)
        self.wrong("askvote 0\n", 0)
        self.wrong("ask\n ", 1)

    def test_line_feeds_too_many(self):
        self.wrong("\n", 0)
        self.wrong("ask\n\n", 1)
        self.wrong("ask\n\nvote 0\n", 1)
        self.wrong("\nask\n", 0)

    def test_whether_they_can_be_done_has_no_meaning(self):
        self.assertEqual(read_run("forget\nforget\nvote 99\n"), [("forget",), ("forget",), ("vote", 99)])

    def test_just_the_text_of_a_run(self):
        for line in ("ask", "vote 7", "fall 99 0", "answer 12 yes"):
            self.assertEqual(run_text(read_run(line + "\n")), line + "\n")


if __name__ == "__main__":
    unittest.main()
