"""Point 10, the errors: what they are and what they keep."""

import unittest

from presumebooks import errors
from tests.samples import any_values, exactly, sample_book, spoil

ATTRIBUTES = {
    "BadBook": "part",
    "BadRecord": "record",
    "BadNumber": "number",
    "BadDeed": "at",
    "BadWish": "wish",
    "BadJournal": "at",
    "BadText": "line",
}
PLAIN = ("BadLog", "BadStanding", "NoBreak", "NotHeld", "BadOutcome", "NothingDone")


def classes():
    """All classes of the module, by their names."""
    return {name: thing for name, thing in vars(errors).items() if isinstance(thing, type)}


class Kinds(unittest.TestCase):
    def test_all_that_are_told_are_there(self):
        self.assertEqual(sorted(classes()), sorted(["DealError", *ATTRIBUTES, *PLAIN]))

    def test_deal_error_is_a_value_error(self):
        self.assertEqual(errors.DealError.__bases__, (ValueError,))
        self.assertEqual(str(errors.DealError("why")), "why")

    def test_all_others_are_directly_below(self):
        for name in (*ATTRIBUTES, *PLAIN):
            self.assertEqual(classes()[name].__bases__, (errors.DealError,), name)

    def test_each_is_of_no_other_class_of_the_package(self):
        for name in (*ATTRIBUTES, *PLAIN):
            error = classes()[name]("x")
            self.assertIsInstance(error, ValueError)
            of = [other for other in classes() if isinstance(error, classes()[other])]
            self.assertEqual(sorted(of), sorted(["DealError", name]))

    def test_each_is_caught_by_its_name_and_from_above(self):
        for name in (*ATTRIBUTES, *PLAIN):
            for caught in (classes()[name], errors.DealError, ValueError):
                with self.assertRaises(caught):
                    raise classes()[name]("x")

    def test_defined_in_their_file(self):
        for name, thing in classes().items():
            self.assertEqual(thing.__module__, "presumebooks.errors", name)


class Values(unittest.TestCase):
    def test_any_value_is_kept_by_position(self):
        for name, attribute in ATTRIBUTES.items():
            for value in any_values():
                error = classes()[name](value)
                self.assertEqual(exactly(getattr(error, attribute)), exactly(value), name)

    def test_any_value_is_kept_by_name(self):
        for name, attribute in ATTRIBUTES.items():
            for value in any_values():
                error = classes()[name](**{attribute: value})
                self.assertEqual(exactly(getattr(error, attribute)), exactly(value), name)

    def test_it_is_set_on_the_object(self):
        for name, attribute in ATTRIBUTES.items():
            self.assertIn(attribute, vars(classes()[name](7)))

    def test_an_object_of_the_package_is_kept_itself(self):
        book = sample_book()
        for name, attribute in ATTRIBUTES.items():
            self.assertIs(getattr(classes()[name](book), attribute), book)

    def test_later_changes_have_no_effect(self):
        for name, attribute in ATTRIBUTES.items():
            for value in any_values():
                before = exactly(value)
                error = classes()[name](value)
                self.assertEqual(exactly(value), before)
                spoil(value)
                self.assertEqual(exactly(getattr(error, attribute)), before)

    def test_one_value_is_needed(self):
        for name in ATTRIBUTES:
            with self.assertRaises(TypeError):
                classes()[name]()
            with self.assertRaises(TypeError):
                classes()[name](1, 2)

    def test_those_without_an_attribute_have_a_message(self):
        for name in PLAIN:
            self.assertEqual(str(classes()[name]("what is wrong")), "what is wrong")

    def test_those_with_one_have_a_message_too(self):
        for name in ATTRIBUTES:
            self.assertNotEqual(str(classes()[name](7)), "")


if __name__ == "__main__":
    unittest.main()
