"""Point 20: first and is_standing."""

import unittest
from itertools import product

from presumebooks.errors import BadNumber
from presumebooks.standings import first, is_standing
from tests.samples import CHAIR, HOUSE, any_values, exactly, logs_of, sample_book

CHAIR_MEMORIES = ("new", "asking", "yes", "no", "gone")
HOUSE_MEMORIES = ("idle", "ready", "yes", "no", "empty")
OUTCOMES = ((), ("no",), ("yes",), ("no", "yes"))
BOOLS = (False, True)


def full_standing():
    """A standing of two houses in which everything has something in it."""
    return (
        ("asking", (("begin", "yes"), 1), True),
        (
            ("ready", (("ready", "agreed"), 1), True, ("no", "yes"), ("no",), True, False),
            ("empty", (("refused",), 0), False, ("yes",), ("yes",), False, True),
        ),
    )


def put(thing, path, value):
    """A tuple with another value at a path of indexes."""
    if not path:
        return value
    return (*thing[: path[0]], put(thing[path[0]], path[1:], value), *thing[path[0] + 1 :])


def paths(thing, ahead=()):
    """The paths to all values within a tuple, and to itself, with these values."""
    found = [(ahead, thing)]
    if isinstance(thing, tuple):
        for at, item in enumerate(thing):
            found.extend(paths(item, (*ahead, at)))
    return found


class First(unittest.TestCase):
    def test_one_house(self):
        told = (("new", ((), 0), False), (("idle", ((), 0), False, (), (), False, False),))
        self.assertEqual(exactly(first(1)), exactly(told))

    def test_each_number(self):
        house = ("idle", ((), 0), False, (), (), False, False)
        for houses in range(1, 6):
            told = (("new", ((), 0), False), tuple([house for _ in range(houses)]))
            self.assertEqual(exactly(first(houses)), exactly(told))
            self.assertEqual(exactly(first(houses=houses)), exactly(told))

    def test_any_other_value(self):
        ok = range(1, 6)
        for wrong in (*any_values(), 6, 7, -5, [1], (1,), "1", "5"):
            if not (isinstance(wrong, int) and not isinstance(wrong, bool) and wrong in ok):
                with self.assertRaises(BadNumber) as caught:
                    first(wrong)
                self.assertEqual(exactly(caught.exception.number), exactly(wrong))

    def test_the_edges(self):
        for wrong in (0, 6, True, False, None, -1):
            with self.assertRaises(BadNumber):
                first(wrong)


class Standings(unittest.TestCase):
    def yes(self, thing):
        self.assertIs(is_standing(thing), True, thing)

    def no(self, thing):
        before = exactly(thing)
        self.assertIs(is_standing(thing), False, thing)
        self.assertEqual(exactly(thing), before)

    def test_first_ones(self):
        for houses in range(1, 6):
            self.yes(first(houses))

    def test_by_name(self):
        self.assertIs(is_standing(thing=first(2)), True)

    def test_all_chairs(self):
        houses = full_standing()[1]
        for memory, log, decided in product(CHAIR_MEMORIES, logs_of(CHAIR), BOOLS):
            self.yes(((memory, log, decided), houses))

    def test_all_houses(self):
        chair, (beside, _) = full_standing()
        for memory, log, voted in product(HOUSE_MEMORIES, logs_of(HOUSE), BOOLS):
            for told, answered, took, dropped in product(OUTCOMES, OUTCOMES, BOOLS, BOOLS):
                house = (memory, log, voted, told, answered, took, dropped)
                if not is_standing((chair, (house,))) or not is_standing((chair, (beside, house))):
                    self.fail(house)

    def test_how_many_houses(self):
        chair, (house, _) = full_standing()
        for houses in range(1, 6):
            self.yes((chair, (house,) * houses))
        for houses in (0, 6, 7, 100):
            self.no((chair, (house,) * houses))

    def test_any_other_value(self):
        for wrong in any_values():
            self.no(wrong)

    def test_any_other_value_at_any_depth(self):
        right = full_standing()
        for (path, old), wrong in product(paths(right), any_values()):
            thing = put(right, path, wrong)
            (self.yes if self.may_stand(path, old, wrong) else self.no)(thing)

    def may_stand(self, path, old, wrong):
        """Whether one of the sample values may stand in the full standing, too, in the place of the old one."""
        if type(old) is bool:
            return type(wrong) is bool
        if path in ((0, 1, 1), (1, 0, 1, 1)):
            return type(wrong) is int and wrong in (0, 1, 2)
        if path == (1, 1, 1, 1):
            return type(wrong) is int and wrong in (0, 1)
        told_or_answered = len(path) == 3 and path[0] == 1 and path[2] in (3, 4)
        if told_or_answered or path == (1, 1, 1, 0):
            return wrong == ()
        return path == (0, 1, 0) and wrong == ("begin",)

    def test_a_list_in_the_place_of_a_tuple_at_any_depth(self):
        for right in (full_standing(), first(1), first(3)):
            for path, old in paths(right):
                if isinstance(old, tuple):
                    self.no(put(right, path, list(old)))

    def test_an_item_more_or_less_at_any_depth(self):
        right = full_standing()
        for path, old in paths(right):
            if isinstance(old, tuple) and path:
                longer = put(right, path, (*old, "more"))
                self.no(longer)
        for path in ((0,), (0, 1), (1, 0), (1, 1), (1, 0, 1)):
            old = right
            for at in path:
                old = old[at]
            self.no(put(right, path, old[:-1]))
            self.no(put(right, path, old[1:]))
            self.no(put(right, path, (*old, old[-1])))
        self.no(right[:1])
        self.no((*right, right[1]))
        self.no((right[1], right[0]))

    def test_bools_and_numbers_are_not_exchanged(self):
        for right in (full_standing(), first(2)):
            for path, old in paths(right):
                if isinstance(old, bool):
                    self.yes(put(right, path, not old))
                    self.no(put(right, path, int(old)))
                elif isinstance(old, int):
                    self.no(put(right, path, bool(old)))

    def test_outcomes_out_of_order_or_twice(self):
        right = full_standing()
        for house, at in product((0, 1), (3, 4)):
            for outcomes in OUTCOMES:
                self.yes(put(right, (1, house, at), outcomes))
            for wrong in (
                ("yes", "no"), ("no", "no"), ("yes", "yes"), ("no", "yes", "yes"), ("no", "no", "yes"), ("wait",),
                ("no", "wait"), ["no"], [], None, "no", "yes", ("no", True), (True,), (("no",),), (sample_book(),),
            ):
                self.no(put(right, (1, house, at), wrong))

    def test_logs_of_the_other_ones(self):
        right = full_standing()
        for log in logs_of(HOUSE):
            (self.yes if log == ((), 0) else self.no)(put(right, (0, 1), log))
        for log, house in product(logs_of(CHAIR), (0, 1)):
            (self.yes if log == ((), 0) else self.no)(put(right, (1, house, 1), log))
        self.no(put(right, (0, 1), (("begin", "ready"), 0)))
        self.no(put(right, (1, 0, 1), (("ready", "no"), 0)))

    def test_records_twice(self):
        right = full_standing()
        self.no(put(right, (0, 1), (("begin", "begin"), 0)))
        self.no(put(right, (0, 1), (("begin", "no", "begin"), 2)))
        self.no(put(right, (1, 1, 1), (("ready", "ready"), 1)))

    def test_safe_numbers(self):
        right = full_standing()
        for path in ((0, 1, 1), (1, 0, 1, 1)):
            for safe in (0, 1, 2):
                self.yes(put(right, path, safe))
            for safe in (-1, 3, 4, 10 ** 29):
                self.no(put(right, path, safe))
        self.no(put(first(1), (0, 1, 1), 1))
        self.no(put(first(1), (1, 0, 1, 1), 1))

    def test_memories_of_the_other_ones(self):
        right = full_standing()
        for memory in (*CHAIR_MEMORIES, *HOUSE_MEMORIES, "begin", "none", "wait"):
            (self.yes if memory in CHAIR_MEMORIES else self.no)(put(right, (0, 0), memory))
            (self.yes if memory in HOUSE_MEMORIES else self.no)(put(right, (1, 1, 0), memory))


if __name__ == "__main__":
    unittest.main()
