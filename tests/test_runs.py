"""Point 30: is_run, led_to and ends."""

import unittest

from presumebooks.books import Book
from presumebooks.runs import ends, is_run, led_to
from tests.model import deeds_by_form, model_first, model_run, model_wrong
from tests.samples import all_books, any_values, error_of, exactly, presumed_no, sample_book, spoil

NONE = ((), 0)
PLAIN = [("ask",), ("vote", 0), ("decide", "yes"), ("tell", 0), ("hear", 0, "yes"), ("answer", 0, "yes"), ("forget",)]


def told_ends(standing):
    """The pairs (took, dropped) of the houses of a standing."""
    return [(house[5], house[6]) for house in standing[1]]


def changed_runs(run, houses):
    """Lists of deeds that differ from a run: one left out, twice, put in, exchanged, otherwise."""
    forms = deeds_by_form(houses)
    for at in range(len(run)):
        yield run[:at] + run[at + 1 :]
        yield run[: at + 1] + run[at:]
        yield run[:at] + [forms[at * 5 % len(forms)]] + run[at:]
        yield run[:at] + [forms[at * 11 % len(forms)]] + run[at + 1 :]
        yield run[:at] + run[at + 1 : at + 2] + run[at : at + 1] + run[at + 2 :]


class Runs(unittest.TestCase):
    def right(self, book, houses, run, standing):
        for thing in (run, tuple(run)):
            before = exactly(thing)
            self.assertIs(is_run(book, houses, thing), True)
            self.assertEqual(exactly(led_to(book, houses, thing)), exactly(standing))
            self.assertEqual(exactly(ends(book, houses, thing)), exactly(told_ends(standing)))
            self.assertEqual(exactly(thing), before)

    def wrong(self, book, houses, thing, at):
        before = exactly(thing)
        self.assertIs(is_run(book, houses, thing), False, thing)
        self.assertEqual(exactly(error_of(led_to, book, houses, thing)), exactly(("BadDeed", at)))
        self.assertEqual(exactly(error_of(ends, book, houses, thing)), exactly(("BadDeed", at)))
        self.assertEqual(exactly(thing), before)

    def test_the_example(self):
        lazy = Book("none", "forced", "none", "lazy", "forced", "none", ["yes"], "no")
        run = [("ask",), ("vote", 0), ("fall", 0, 0), ("decide", "yes")]
        self.assertEqual(exactly(ends(lazy, 1, run)), exactly([(False, True)]))

    def test_none_done(self):
        for houses in range(1, 6):
            self.right(sample_book(), houses, [], model_first(houses))

    def test_a_plain_course(self):
        told = {"answers": ["yes"], "begin": "none", "yes": "forced", "ready": "forced", "agreed": "lazy"}
        house = ("yes", (("ready", "agreed"), 1), True, ("yes",), ("yes",), True, False)
        self.right(sample_book(**told), 1, PLAIN, (("gone", NONE, True), (house,)))

    def test_several_houses(self):
        run = [("refuse", 2), ("ask",), ("vote", 0), ("decide", "no"), ("tell", 1), ("hear", 1, "no")]
        houses = (
            ("ready", (("ready",), 1), True, (), (), False, False),
            ("no", NONE, False, ("no",), (), False, True),
            ("no", NONE, False, (), (), False, True),
        )
        self.right(sample_book(), 3, run, (("no", (("no",), 0), False), houses))
        self.assertEqual(ends(sample_book(), 3, run), [(False, False), (False, True), (False, True)])

    def test_right_ones_of_one_to_five_houses(self):
        for turn, book in enumerate(all_books()[::101]):
            houses = turn % 5 + 1
            run, standing = model_run(book, houses, 10 + turn % 30, turn)
            self.right(book, houses, run, standing)

    def test_a_long_one(self):
        for houses in range(1, 6):
            run, standing = model_run(presumed_no(), houses, 120, houses)
            self.right(presumed_no(), houses, run, standing)

    def test_changed_ones(self):
        rights = wrongs = 0
        for turn, book in enumerate(all_books()[::401]):
            houses = turn % 5 + 1
            run, _ = model_run(book, houses, 12 + turn % 7, turn)
            for changed in changed_runs(run, houses):
                at = model_wrong(book, houses, changed)
                rights += at is None
                if at is None:
                    self.assertIs(is_run(book, houses, changed), True)
                else:
                    self.wrong(book, houses, changed, at)
                    wrongs += 1
        self.assertGreater(rights, 100)
        self.assertGreater(wrongs, 100)

    def test_items_that_are_no_deeds(self):
        near = [list(PLAIN[1]), ("vote", False), ("vote", 1), ("vote",), ("vote", 0, 0), "vote", ("fall", 0, False)]
        for wrong in (*any_values(), *near):
            for at in range(len(PLAIN) + 1):
                for thing in ([*PLAIN[:at], wrong, *PLAIN[at:]], (*PLAIN[:at], wrong)):
                    self.wrong(presumed_no(), 1, thing, at)

    def test_the_first_wrong_item_is_told(self):
        self.wrong(presumed_no(), 1, [*PLAIN[:2], ("ask",), None, "x"], 2)
        self.wrong(presumed_no(), 1, [*PLAIN[:3], None, ("ask",), *PLAIN], 3)

    def test_no_list(self):
        for wrong in (*any_values(), "ask", ("ask",), {("ask",): 0}, {0: ("ask",)}):
            if not (isinstance(wrong, (list, tuple)) and len(wrong) == 0):
                self.wrong(sample_book(), 1, wrong, 0)

    def test_a_house_that_is_none(self):
        for houses in range(1, 6):
            for word in ("vote", "refuse"):
                run = [("ask",), (word, houses - 1)]
                self.assertIs(is_run(sample_book(), houses, run), True)
                self.wrong(sample_book(), houses, [("ask",), (word, houses)], 1)
                self.wrong(sample_book(), houses, [("ask",), (word, -1)], 1)

    def test_other_numbers_of_houses(self):
        for wrong in (*any_values(), 6, 7, 100, "1", [1], (1,)):
            if exactly(wrong) not in [exactly(houses) for houses in range(1, 6)]:
                for run in ([], [("ask",)], ["wrong"], None):
                    for function in (is_run, led_to, ends):
                        told = error_of(function, sample_book(), wrong, run)
                        self.assertEqual(exactly(told), exactly(("BadNumber", wrong)))

    def test_no_book_comes_first(self):
        for wrong in any_values():
            if not isinstance(wrong, Book):
                for houses, run in ((1, []), (0, None), (True, [None])):
                    for function in (is_run, led_to, ends):
                        self.assertEqual(error_of(function, wrong, houses, run), ("BadBook", "book"))

    def test_by_name(self):
        self.assertIs(is_run(thing=[("ask",)], houses=2, book=sample_book()), True)
        self.assertEqual(led_to(run=[], houses=2, book=sample_book()), model_first(2))
        self.assertEqual(ends(run=[("refuse", 1)], houses=2, book=sample_book()), [(False, False), (False, True)])

    def test_the_lists_are_new(self):
        told = ends(sample_book(), 2, [])
        spoil(told)
        self.assertEqual(ends(sample_book(), 2, []), [(False, False), (False, False)])

    def test_later_changes_have_no_effect(self):
        run = list(PLAIN)
        standing = led_to(presumed_no(), 1, run)
        before = exactly(standing)
        spoil(run)
        self.assertEqual(exactly(standing), before)

    def test_what_was_ever_done_stays(self):
        for turn, book in enumerate(all_books()[::701]):
            houses = turn % 3 + 1
            run, _ = model_run(book, houses, 40, turn)
            ahead = [set() for _ in range(houses + 1)]
            for length in range(len(run) + 1):
                chair, all_houses = led_to(book, houses, run[:length])
                now = [{"decided"} if chair[2] else set()]
                for _, _, voted, told, answered, took, dropped in all_houses:
                    flags = {"voted": voted, "took": took, "dropped": dropped}
                    now.append({name for name in flags if flags[name]})
                    now[-1].update([("told", one) for one in told], [("answered", one) for one in answered])
                for before, later in zip(ahead, now):
                    self.assertLessEqual(before, later)
                ahead = now

    def test_what_was_done_stays_behind_falls(self):
        book = presumed_no(agreed="lazy", refused="lazy")
        run = [*PLAIN[:5], ("fall", 0, 1), ("down", 1)]
        chair, (house,) = led_to(book, 1, run)
        self.assertEqual((chair, house), (
            ("yes", (("yes",), 1), True), ("ready", (("ready",), 1), True, ("yes",), (), True, False)
        ))
        self.assertEqual(ends(book, 1, [("refuse", 0), ("fall", 0, 0), ("fall", 0, 0)]), [(False, True)])


if __name__ == "__main__":
    unittest.main()
