"""Points 1 to 6 over the whole program: what holds for each function and class of the interface."""

import importlib
import inspect
import unittest

from presumebooks.books import Book
from presumebooks.comes import standings_of
from presumebooks.desk import Desk
from presumebooks.journals import journal_of
from presumebooks.office import Office
from presumebooks.standings import first
from presumebooks.texts import book_text
from presumebooks.wishes import breaker, paper
from tests.samples import (
    any_values, busy_office, error_of, exactly, nothing_presumed, presumed_no, presumed_yes, sample_book, sample_desk,
    spoil,
)
from tests.test_interface import FUNCTIONS, METHODS

RUN = [("ask",), ("vote", 0), ("decide", "yes"), ("tell", 0), ("hear", 0, "yes")]


def function(file, name):
    """A function of the package."""
    return getattr(importlib.import_module("presumebooks." + file), name)


def calls():
    """For each function rows of arguments, made anew by each call."""
    lazy = presumed_no(ready="lazy")
    standing = standings_of(presumed_no())[-1]
    return {
        "written": [(presumed_no(), (("begin",), 0), "yes")],
        "left_by": [((("ready", "agreed"), 0),)],
        "first": [(3,)],
        "is_standing": [(first(2),), ([1, [2]],)],
        "deeds_at": [(presumed_no(), standing)],
        "behind": [(presumed_no(), first(2), ("ask",))],
        "may_do": [(presumed_no(), first(2), ("ask",)), (presumed_no(), first(2), ["x", [0]])],
        "is_run": [(presumed_no(), 1, list(RUN)), (presumed_no(), 1, [["ask"]])],
        "led_to": [(presumed_no(), 2, [("ask",), ("vote", 1)])],
        "ends": [(presumed_no(), 1, list(RUN))],
        "standings_of": [(presumed_no(),), (lazy,)],
        "run_to": [(lazy, standing)],
        "is_closed": [(lazy, standings_of(lazy)), (lazy, standings_of(lazy)[1:])],
        "breaks": [(lazy, "kept", standing)],
        "holds": [(lazy, "kept"), (presumed_no(), "quiet")],
        "breaker": [(lazy, "kept"), (presumed_no(), "kept")],
        "falls_to": [(lazy, "kept")],
        "paper": [(lazy, "kept"), (presumed_no(), "kept"), (presumed_no(), "quiet")],
        "is_paper": [(lazy, "kept", paper(lazy, "kept")), (presumed_no(), "quiet", paper(presumed_no(), "quiet"))],
        "cut": [(presumed_no(), 2, [("ask",), ("vote", 1), ("vote", 0)], 1)],
        "is_alike": [(presumed_no(),)],
        "unlike_run": [(lazy,)],
        "spread": [(lazy, breaker(lazy, "kept"))],
        "least_forced": [(presumed_no(), ["kept", "honest"])],
        "least_written": [(presumed_no(), ["kept", "honest"])],
        "needless": [(presumed_no(no="lazy"), ["kept", "honest"])],
        "costs": [(presumed_no(), "yes", 3)],
        "cheapest": [(presumed_no(), ["kept", "honest"], "yes", 3)],
        "faces": [(lazy,)],
        "alone": [(lazy, presumed_no())],
        "run_alone": [(lazy, presumed_no())],
        "presumptions": [(lazy, ["honest", "quiet"])],
        "is_outside": [(lazy, [("ask",), ("vote", 0), ("fall", 0)]), (lazy, [["ask"]])],
        "parting": [(presumed_no(), presumed_yes())],
        "do_alike": [(presumed_no(), nothing_presumed())],
        "may_have": [(lazy, ("yes",), ("ready",))],
        "sure_of": [(lazy, ("yes",), ("ready",))],
        "logs_left": [(lazy,)],
        "journal_of": [(busy_office(),)],
        "first_wrong": [(sample_book(), 2, journal_of(busy_office())), (sample_book(), 2, [[1]])],
        "replayed": [(sample_book(), 2, journal_of(busy_office()))],
        "book_text": [(lazy,)],
        "read_book": [(book_text(lazy),)],
        "run_text": [(list(RUN),)],
        "read_run": [("ask\nvote 0\n",)],
    }


def all_calls():
    """All functions with their parameters and a row of arguments."""
    rows = calls()
    for file, functions in FUNCTIONS.items():
        for name, parameters in functions.items():
            for passed in rows[name]:
                yield function(file, name), parameters, passed


def as_tuple(value):
    """A list as a tuple of its items."""
    return tuple(value) if isinstance(value, list) else value


def lists_within(value):
    """All lists and dicts within a value."""
    found = [value] if isinstance(value, (list, dict)) else []
    if isinstance(value, dict):
        value = [*value, *value.values()]
    if isinstance(value, (list, tuple)):
        for item in value:
            found.extend(lists_within(item))
    return found


class Calls(unittest.TestCase):
    def test_all_functions_are_called(self):
        self.assertEqual(sorted(calls()), sorted(name for functions in FUNCTIONS.values() for name in functions))

    def test_by_position_and_by_name(self):
        for call, parameters, passed in all_calls():
            wanted = exactly(call(*passed))
            self.assertEqual(exactly(call(**dict(zip(parameters, passed)))), wanted, call)
            backwards = dict(list(zip(parameters, passed))[::-1])
            self.assertEqual(exactly(call(**backwards)), wanted, call)

    def test_arguments_are_not_changed(self):
        for call, _, passed in all_calls():
            before = exactly(passed)
            call(*passed)
            self.assertEqual(exactly(passed), before, call)

    def test_equal_arguments_give_equal_results(self):
        for (call, _, passed), (_, _, again) in zip(list(all_calls()), list(all_calls())):
            wanted = exactly(call(*passed))
            self.assertEqual(exactly(call(*again)), wanted, call)
            self.assertEqual(exactly(call(*[as_tuple(one) for one in again])), wanted, call)

    def test_results_are_new_at_every_depth(self):
        for call, _, passed in all_calls():
            result = call(*passed)
            before = exactly(result)
            own = [id(one) for one in lists_within(passed)]
            for one in lists_within(result):
                self.assertNotIn(id(one), own, call)
            spoil(result)
            self.assertEqual(exactly(call(*passed)), before, call)

    def test_later_changes_of_what_was_passed(self):
        for call, _, passed in all_calls():
            result = call(*passed)
            before = exactly(result)
            spoil(passed)
            self.assertEqual(exactly(result), before, call)

    def test_dicts_have_ascending_keys(self):
        for call, _, passed in all_calls():
            for one in lists_within(call(*passed)):
                if isinstance(one, dict):
                    self.assertEqual(list(one), sorted(one), call)

    def test_one_book_after_the_other(self):
        rows = [(call, passed, exactly(call(*passed))) for call, _, passed in all_calls()]
        for call, passed, wanted in rows[::-1]:
            self.assertEqual(exactly(call(*passed)), wanted, call)

    def test_functions_that_take_a_book(self):
        for call, parameters, passed in all_calls():
            for at, name in enumerate(parameters):
                if name not in ("book", "one", "other"):
                    continue
                for wrong in any_values():
                    if not isinstance(wrong, Book):
                        row = (*passed[:at], wrong, *passed[at + 1 :])
                        self.assertEqual(error_of(call, *row), ("BadBook", name), call)


class Objects(unittest.TestCase):
    def objects(self):
        """An object of each class."""
        return [sample_book(), busy_office(), sample_desk()]

    def test_cannot_be_iterated_over(self):
        for one in self.objects():
            for call in (iter, list, tuple, dict, sorted, len):
                with self.assertRaises(TypeError):
                    call(one)

    def test_equal_to_no_value_of_another_kind(self):
        for one in self.objects():
            for other in any_values():
                if type(other) is not type(one):
                    self.assertFalse(one == other)
                    self.assertFalse(other == one)
                    self.assertTrue(one != other)

    def test_methods_without_a_documented_result_return_none(self):
        office = busy_office()
        for call, passed in (
            (office.do, [("vote", 1)]), (office.do_all, [[("decide", "no")]]), (office.undo, []),
            (office.swap, [presumed_no()]),
        ):
            self.assertIsNone(call(*passed))

    def test_each_method_is_defined_in_its_class(self):
        for file, name in METHODS:
            thing = function(file, name)
            for method in METHODS[file, name]:
                self.assertTrue(inspect.isfunction(vars(thing)[method]), f"{name}.{method}")

    def test_attributes_of_books(self):
        book = Book(*["lazy"] * 6, ["yes", "no"], "wait")
        self.assertEqual((book.answers, book.presume, book.forced), (("no", "yes"), "wait", ()))

    def test_calls_that_raise_change_nothing(self):
        office = Office(presumed_no(), 2)
        office.do_all(RUN[:2])
        desk = Desk(book_text(presumed_no()), 2)
        desk.say("ask")
        kept = exactly([office, desk])
        for call, passed in (
            (office.do, [("ask",)]), (office.do_all, [[("vote", 1), ("vote", 1)]]), (office.swap, [None]),
            (Office, [presumed_no(), 0]), (Desk, ["", 1]),
        ):
            error_of(call, *passed)
            self.assertEqual(exactly([office, desk]), kept)
        self.assertEqual(desk.say("ask"), "error BadDeed")
        self.assertEqual(exactly([office, desk]), kept)


if __name__ == "__main__":
    unittest.main()
