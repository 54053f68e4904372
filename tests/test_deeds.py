"""Points 21 and 22: deeds_at, behind and may_do."""

import unittest
from itertools import product

from presumebooks.deeds import behind, deeds_at, may_do
from presumebooks.standings import first, is_standing
from tests.model import HOUSE_PARTS, deeds_by_form, model_first, model_graph, model_moves
from tests.samples import (
    ALL_ANSWERS, CHAIR, HOUSE, PRESUMPTIONS, WORDS, all_books, any_values, error_of, exactly, logs_of, sample_book,
    spoil,
)

NONE = ((), 0)
IDLE = ("idle", NONE, False, (), (), False, False)
CHAIR_MEMORIES = ("new", "asking", "yes", "no", "gone")
HOUSE_MEMORIES = ("idle", "ready", "yes", "no", "empty")
OUTCOMES = ("no", "yes")
BOOLS = (False, True)


def chair(memory, log=NONE, decided=False):
    """A chair in which most is as at the beginning."""
    return (memory, log, decided)


def house(memory, **changed):
    """A house in which most is as at the beginning."""
    parts = {**dict(zip(HOUSE_PARTS, IDLE)), "memory": memory, **changed}
    return tuple([parts[part] for part in HOUSE_PARTS])


def standings_by_form(many):
    """So many standings by their form alone, most of which no run leads to, of one to three houses."""
    chairs = list(product(CHAIR_MEMORIES, logs_of(CHAIR), BOOLS))
    houses = list(product(HOUSE_MEMORIES, logs_of(HOUSE), BOOLS, ALL_ANSWERS, ALL_ANSWERS, BOOLS, BOOLS))
    found = []
    for at in range(many):
        some = tuple([houses[(at * 7919 + k * 4051) % len(houses)] for k in range(1 + at % 3)])
        found.append((chairs[at * 101 % len(chairs)], some))
    return found


def wrong_deeds(houses):
    """Values that are no deeds beside so many houses, most of them nearly one."""
    return [
        *any_values(),
        ["ask"], "ask", ("Ask",), ("ask", 0), ("ask", ()), (("ask",),), ("ask", "ask"), ("",), (None,),
        ["vote", 0], ("vote",), ("vote", houses), ("vote", -1), ("vote", 0, 0), ("vote", "0"), ("vote", None),
        ("vote", False), ("vote", (0,)), ("vote", [0]), (0, "vote"), ("vote", 10 ** 29), ("vote", {}),
        ["refuse", 0], ("refuse",), ("refuse", houses), ("refuse", False), ("refuse", 0, "no"),
        ["decide", "no"], ("decide",), ("decide", "wait"), ("decide", "no", 0), ("decide", 0, "no"),
        ("decide", ["no"]), ("decide", None), ("decide", ("yes",)), ("decide", True),
        ["tell", 0], ("tell",), ("tell", houses), ("tell", False), ("tell", 0, "no"), ("tell", 0, "yes"), ("tell", -1),
        ["hear", 0, "no"], ("hear", 0), ("hear", "no", 0), ("hear", houses, "no"), ("hear", False, "no"),
        ("hear", 0, "no", 0), ("hear", 0, "wait"), ("hear", 0, ["no"]), ("hear", 0, False), ("hear",),
        ["answer", 0, "no"], ("answer", 0), ("answer", "yes", 0), ("answer", houses, "yes"), ("answer", False, "no"),
        ("answer", 0, "yes", "no"), ("answer", 0, "agreed"), ("answer", 0, None), ("answer",), ("answer", -1, "no"),
        ["forget"], "forget", ("forget", 0), ("forget", "no"), ("forgot",),
        ["clear", 0], ("clear",), ("clear", houses), ("clear", False), ("clear", 0, 0),
        ["down", 0], ("down",), ("down", False), ("down", True), ("down", -1), ("down", 4), ("down", 0, 0),
        ("down", "0"), ("down", None), ("down", "begin"), ("down", [0]), ("down", 0, "no"),
        ["fall", 0, 0], ("fall", 0), ("fall",), ("fall", houses, 0), ("fall", False, 0), ("fall", 0, False),
        ("fall", 0, True), ("fall", 0, -1), ("fall", 0, 4), ("fall", 0, 0, 0), ("fall", 0, "0"), ("fall", -1, 0),
        ("fall", 0, None), ("fall", 0, (0,)), ("swap", sample_book()), ("undo",), (sample_book(),), ("vote", sample_book()),
    ]


class Told(unittest.TestCase):
    """Helpers for deeds that are told one by one."""

    def can(self, book, standing, deed, other):
        self.assertTrue(is_standing(standing) and is_standing(other))
        before = exactly(standing)
        self.assertEqual(exactly(behind(book, standing, deed)), exactly(other))
        self.assertIn(deed, deeds_at(book, standing))
        self.assertIs(may_do(book, standing, deed), True)
        self.assertEqual(exactly(standing), before)

    def cannot(self, book, standing, deed):
        self.assertTrue(is_standing(standing))
        self.assertEqual(error_of(behind, book, standing, deed), ("BadDeed", 0))
        self.assertNotIn(deed, deeds_at(book, standing))
        self.assertIs(may_do(book, standing, deed), False)


class Chair(Told):
    def test_ask(self):
        for word, log in (("none", NONE), ("lazy", (("begin",), 0)), ("forced", (("begin",), 1))):
            book = sample_book(begin=word)
            self.can(book, first(1), ("ask",), (chair("asking", log), (IDLE,)))
            self.can(book, first(4), ("ask",), (chair("asking", log), (IDLE,) * 4))
        for memory in ("asking", "yes", "no", "gone"):
            self.cannot(sample_book(), (chair(memory), (IDLE,)), ("ask",))

    def test_decide_yes(self):
        log = (("begin",), 0)
        for word, later in (("none", log), ("lazy", (("begin", "yes"), 0)), ("forced", (("begin", "yes"), 2))):
            for memory in HOUSE_MEMORIES:
                houses = (house(memory, voted=True), house("ready", voted=True))
                other = (chair("yes", later, True), houses)
                self.can(sample_book(yes=word), (chair("asking", log), houses), ("decide", "yes"), other)
                other = (chair("yes", later, True), houses[:1])
                self.can(sample_book(yes=word), (chair("asking", log), houses[:1]), ("decide", "yes"), other)

    def test_decide_yes_needs_all_votes(self):
        voted, not_yet = house("ready", voted=True), house("ready")
        for houses in ((not_yet,), (IDLE,), (voted, not_yet), (not_yet, voted), (voted, voted, IDLE, voted, voted)):
            self.cannot(sample_book(), (chair("asking"), houses), ("decide", "yes"))
        for memory in ("new", "yes", "no", "gone"):
            self.cannot(sample_book(), (chair(memory), (voted,)), ("decide", "yes"))

    def test_decide_no(self):
        log = (("begin",), 1)
        for word, later in (("none", log), ("lazy", (("begin", "no"), 1)), ("forced", (("begin", "no"), 2))):
            for houses in ((IDLE,), (house("ready", voted=True), IDLE)):
                self.can(
                    sample_book(no=word), (chair("asking", log), houses), ("decide", "no"), (chair("no", later), houses)
                )
        for memory in ("new", "yes", "no", "gone"):
            self.cannot(sample_book(), (chair(memory), (IDLE,)), ("decide", "no"))

    def test_decide_no_keeps_what_was_ever_decided(self):
        other = (chair("no", NONE, True), (IDLE,))
        self.can(sample_book(no="none"), (chair("asking", NONE, True), (IDLE,)), ("decide", "no"), other)

    def test_forget_without_answers(self):
        for memory in ("yes", "no"):
            for answers in ((), ("no",) if memory == "yes" else ("yes",)):
                standing = (chair(memory, (("begin", memory), 2), memory == "yes"), (house("ready"), IDLE))
                other = (chair("gone", NONE, memory == "yes"), (house("ready"), IDLE))
                self.can(sample_book(answers=answers), standing, ("forget",), other)

    def test_forget_with_answers(self):
        for memory, other in (("yes", "no"), ("no", "yes")):
            right, wrong = house("empty", answered=(memory,)), house("empty", answered=(other,), told=OUTCOMES)
            both = house("yes", answered=OUTCOMES)
            for answers in ((memory,), OUTCOMES):
                book = sample_book(answers=answers)
                for houses in ((right,), (both,), (right, both), (both,) * 5):
                    self.can(book, (chair(memory), houses), ("forget",), (chair("gone"), houses))
                for houses in ((wrong,), (IDLE,), (right, wrong), (wrong, right), (both, both, IDLE)):
                    self.cannot(book, (chair(memory), houses), ("forget",))

    def test_forget_needs_an_outcome(self):
        for memory in ("new", "asking", "gone"):
            self.cannot(sample_book(answers=()), (chair(memory), (IDLE,)), ("forget",))

    def test_tell(self):
        for memory, presume in product(("yes", "no"), PRESUMPTIONS):
            book = sample_book(presume=presume)
            for before, later in (((), (memory,)), (("no" if memory == "yes" else "yes",), OUTCOMES)):
                for one in HOUSE_MEMORIES:
                    houses = (IDLE, house(one, told=before))
                    other = (chair(memory), (IDLE, house(one, told=later)))
                    self.can(book, (chair(memory), houses), ("tell", 1), other)
            for before in ((memory,), OUTCOMES):
                self.cannot(book, (chair(memory), (house("ready", told=before), IDLE)), ("tell", 0))

    def test_tell_what_is_presumed(self):
        for presume in ("yes", "no"):
            book = sample_book(presume=presume)
            for before, later in (((), (presume,)), (("no" if presume == "yes" else "yes",), OUTCOMES)):
                standing = (chair("gone", NONE, True), (house("ready", told=before),))
                self.can(book, standing, ("tell", 0), (chair("gone", NONE, True), (house("ready", told=later),)))
            self.cannot(book, (chair("gone"), (house("ready", told=(presume,)),)), ("tell", 0))

    def test_tell_nothing(self):
        for before in ALL_ANSWERS:
            self.cannot(sample_book(presume="wait"), (chair("gone"), (house("ready", told=before),)), ("tell", 0))
        for memory, presume in product(("new", "asking"), PRESUMPTIONS):
            self.cannot(sample_book(presume=presume), (chair(memory), (house("ready"),)), ("tell", 0))

    def test_down_leaves_any_beginning_from_the_safe_ones_on(self):
        for records, safe in logs_of(CHAIR):
            for memory, decided in product(("asking", "yes", "no", "gone"), BOOLS):
                standing = (chair(memory, (records, safe), decided), (IDLE,))
                for left in range(4):
                    if not safe <= left <= len(records):
                        self.cannot(sample_book(), standing, ("down", left))
                        continue
                    later = {"begin": "no", "no": "no", "yes": "yes"}[records[left - 1]] if left else "gone"
                    other = (chair(later, (records[:left], left), decided), (IDLE,))
                    self.can(sample_book(), standing, ("down", left), other)

    def test_down_writes_nothing(self):
        book = sample_book(no="forced")
        standing = (chair("asking", (("begin",), 0)), (IDLE,))
        self.can(book, standing, ("down", 1), (chair("no", (("begin",), 1)), (IDLE,)))

    def test_a_new_chair_does_not_fall(self):
        self.cannot(sample_book(), first(1), ("down", 0))
        self.cannot(sample_book(), (chair("new", (("begin",), 0)), (IDLE,)), ("down", 1))

    def test_a_chair_that_is_gone_may_fall(self):
        self.can(sample_book(), (chair("gone"), (IDLE,)), ("down", 0), (chair("gone"), (IDLE,)))


class House(Told):
    def beside(self, one, other):
        """Two standings of some houses, which differ in a house that changes, and its number."""
        for ahead, after in ((0, 0), (1, 0), (0, 1), (2, 2)):
            many = (house("empty", dropped=True),)
            yield many * ahead + (one,) + many * after, many * ahead + (other,) + many * after, ahead

    def test_vote(self):
        for word, log in (("none", NONE), ("lazy", (("ready",), 0)), ("forced", (("ready",), 1))):
            for before, later, k in self.beside(IDLE, house("ready", log=log, voted=True)):
                for memory in ("asking", "yes", "no", "gone"):
                    self.can(sample_book(ready=word), (chair(memory), before), ("vote", k), (chair(memory), later))
                self.cannot(sample_book(ready=word), (chair("new"), before), ("vote", k))
        for memory in ("ready", "yes", "no", "empty"):
            self.cannot(sample_book(), (chair("asking"), (house(memory),)), ("vote", 0))

    def test_refuse(self):
        for word, log in (("none", NONE), ("lazy", (("refused",), 0)), ("forced", (("refused",), 1))):
            for before, later, k in self.beside(IDLE, house("no", log=log, dropped=True)):
                for memory in CHAIR_MEMORIES:
                    self.can(sample_book(refused=word), (chair(memory), before), ("refuse", k), (chair(memory), later))
        for memory in ("ready", "yes", "no", "empty"):
            self.cannot(sample_book(), (chair("asking"), (house(memory),)), ("refuse", 0))

    def test_hear_yes(self):
        log = (("ready",), 0)
        for word, more in (("none", log), ("lazy", (("ready", "agreed"), 0)), ("forced", (("ready", "agreed"), 2))):
            for told in (("yes",), OUTCOMES):
                one = house("ready", log=log, told=told, voted=True)
                for before, later, k in self.beside(one, house("yes", log=more, told=told, voted=True, took=True)):
                    for memory in CHAIR_MEMORIES:
                        other = (chair(memory), later)
                        self.can(sample_book(agreed=word), (chair(memory), before), ("hear", k, "yes"), other)
        for memory in ("idle", "yes", "no", "empty"):
            self.cannot(sample_book(), (chair("yes"), (house(memory, told=OUTCOMES),)), ("hear", 0, "yes"))

    def test_hear_no(self):
        log = (("ready",), 1)
        for word, more in (("none", log), ("lazy", (("ready", "refused"), 1)), ("forced", (("ready", "refused"), 2))):
            for told, memory in product((("no",), OUTCOMES), ("ready", "idle")):
                one = house(memory, log=log, told=told)
                for before, later, k in self.beside(one, house("no", log=more, told=told, dropped=True)):
                    self.can(sample_book(refused=word), (chair("no"), before), ("hear", k, "no"), (chair("no"), later))
        for memory in ("yes", "no", "empty"):
            self.cannot(sample_book(), (chair("no"), (house(memory, told=OUTCOMES),)), ("hear", 0, "no"))

    def test_hear_only_what_was_told(self):
        for memory, chair_memory in product(("idle", "ready"), CHAIR_MEMORIES):
            for told, outcome in (((), "no"), ((), "yes"), (("no",), "yes"), (("yes",), "no")):
                self.cannot(sample_book(), (chair(chair_memory), (house(memory, told=told),)), ("hear", 0, outcome))

    def test_answer(self):
        for memory, told in product(("yes", "no", "empty"), ALL_ANSWERS):
            for outcome, answered in product(OUTCOMES, ALL_ANSWERS):
                one = house(memory, told=told, answered=answered)
                more = tuple(sorted({*answered, outcome}))
                for before, later, k in self.beside(one, house(memory, told=told, answered=more)):
                    if outcome in told and outcome not in answered:
                        self.can(sample_book(), (chair("gone"), before), ("answer", k, outcome), (chair("gone"), later))
                    else:
                        self.cannot(sample_book(), (chair("yes"), before), ("answer", k, outcome))
        for memory, outcome in product(("idle", "ready"), OUTCOMES):
            self.cannot(sample_book(), (chair("no"), (house(memory, told=OUTCOMES),)), ("answer", 0, outcome))

    def test_clear(self):
        for memory in ("yes", "no"):
            told = {"told": ("yes",), "answered": ("yes",), "voted": True, "took": True}
            one = house(memory, log=(("ready", "agreed"), 2), **told)
            for before, later, k in self.beside(one, house("empty", **told)):
                self.can(sample_book(), (chair("yes"), before), ("clear", k), (chair("yes"), later))
        for memory in ("idle", "ready", "empty"):
            self.cannot(sample_book(), (chair("yes"), (house(memory, told=OUTCOMES),)), ("clear", 0))

    def test_fall_leaves_any_beginning_from_the_safe_ones_on(self):
        for (records, safe), memory, dropped in product(logs_of(HOUSE), HOUSE_MEMORIES, BOOLS):
            parts = {"voted": True, "told": ("no",), "answered": ("no",), "took": True}
            standing = (chair("new"), (house(memory, log=(records, safe), dropped=dropped, **parts),))
            for left in range(4):
                if not safe <= left <= len(records):
                    self.cannot(sample_book(), standing, ("fall", 0, left))
                    continue
                later, drops = "empty", dropped or memory != "empty"
                if left:
                    later, drops = {"agreed": "yes", "refused": "no", "ready": "ready"}[records[left - 1]], dropped
                other = house(later, log=(records[:left], left), dropped=drops, **parts)
                self.can(sample_book(), standing, ("fall", 0, left), (chair("new"), (other,)))

    def test_fall_of_one_house_of_several(self):
        one = house("yes", log=(("ready", "agreed"), 1), took=True)
        for before, later, k in self.beside(one, house("ready", log=(("ready",), 1), took=True)):
            self.can(sample_book(), (chair("yes"), before), ("fall", k, 1), (chair("yes"), later))
            self.cannot(sample_book(), (chair("yes"), before), ("fall", k, 0))

    def test_an_empty_house_may_fall(self):
        for dropped in BOOLS:
            standing = (chair("gone"), (house("empty", dropped=dropped),))
            self.can(sample_book(), standing, ("fall", 0, 0), standing)

    def test_an_idle_house_may_fall(self):
        self.can(sample_book(), first(1), ("fall", 0, 0), (chair("new"), (house("empty", dropped=True),)))


class Records(Told):
    def test_one_that_is_there_already_is_not_written_again(self):
        told = {"told": OUTCOMES, "voted": True}
        for word in WORDS:
            book = sample_book(**{record: word for record in (*CHAIR, *HOUSE)})
            log = (("no", "yes", "begin"), 1)
            house_log = (("agreed", "refused", "ready"), 0)
            one = (house("ready", log=house_log, **told),)
            idle = (house("idle", log=house_log, **told),)
            self.can(book, (chair("new", log), one), ("ask",), (chair("asking", log), one))
            for outcome in OUTCOMES:
                other = (chair(outcome, log, outcome == "yes"), one)
                self.can(book, (chair("asking", log), one), ("decide", outcome), other)
            other = house("yes", log=house_log, took=True, **told)
            self.can(book, (chair("yes"), one), ("hear", 0, "yes"), (chair("yes"), (other,)))
            other = house("no", log=house_log, dropped=True, **told)
            self.can(book, (chair("yes"), one), ("hear", 0, "no"), (chair("yes"), (other,)))
            self.can(book, (chair("yes"), idle), ("refuse", 0), (chair("yes"), (other,)))
            self.can(book, (chair("yes"), idle), ("vote", 0), (chair("yes"), one))

    def test_what_was_lost_is_written_again(self):
        book = sample_book(ready="forced", agreed="lazy")
        told = {"told": ("yes",), "voted": True, "took": True}
        both = house("yes", log=(("ready", "agreed"), 1), **told)
        one = house("ready", log=(("ready",), 1), **told)
        self.can(book, (chair("yes"), (both,)), ("fall", 0, 1), (chair("yes"), (one,)))
        self.can(book, (chair("yes"), (one,)), ("hear", 0, "yes"), (chair("yes"), (both,)))


class Everywhere(unittest.TestCase):
    """All three functions beside the tests' own model."""

    def compare(self, book, standing):
        moves = model_moves(book, standing)
        before = exactly(standing)
        deeds = deeds_at(book, standing)
        self.assertEqual(exactly(deeds), exactly(list(moves)))
        self.assertEqual(deeds, sorted(deeds))
        for deed in deeds_by_form(len(standing[1]) + 1):
            if deed in moves:
                self.assertEqual(exactly(behind(book, standing, deed)), exactly(moves[deed]))
                self.assertIs(may_do(book, standing, deed), True)
            else:
                self.assertEqual(error_of(behind, book, standing, deed), ("BadDeed", 0))
                self.assertIs(may_do(book, standing, deed), False)
        self.assertEqual(exactly(standing), before)

    def test_standings_that_come(self):
        for book in all_books()[::301]:
            for standing in list(model_graph(book))[::5]:
                self.compare(book, standing)

    def test_standings_by_their_form_alone(self):
        books = all_books()
        for at, standing in enumerate(standings_by_form(1500)):
            self.compare(books[at * 577 % len(books)], standing)

    def test_courses_of_each_number_of_houses(self):
        for houses, book in product(range(1, 6), all_books()[5::1203]):
            standing = model_first(houses)
            for at in range(25):
                self.compare(book, standing)
                moves = model_moves(book, standing)
                standing = moves[list(moves)[(at * 7 + houses) % len(moves)]]

    def test_equal_arguments_give_equal_results(self):
        standing = (chair("asking", (("begin",), 0)), (house("ready", log=(("ready",), 1), voted=True), IDLE))
        books = [sample_book(answers=answers) for answers in (["no", "yes"], ("yes", "no"))]
        self.assertEqual(*[deeds_at(book, standing) for book in books])

    def test_by_name(self):
        standing = first(1)
        self.assertEqual(deeds_at(standing=standing, book=sample_book()), [("ask",), ("fall", 0, 0), ("refuse", 0)])
        other = behind(deed=("ask",), standing=standing, book=sample_book())
        self.assertEqual(other, (chair("asking"), (IDLE,)))
        self.assertIs(may_do(thing=("ask",), standing=standing, book=sample_book()), True)

    def test_the_lists_are_new(self):
        deeds = deeds_at(sample_book(), first(2))
        again = list(deeds)
        spoil(deeds)
        self.assertEqual(deeds_at(sample_book(), first(2)), again)

    def test_the_order(self):
        one = house("no", log=(("ready", "refused"), 0), told=OUTCOMES, voted=True, dropped=True)
        standing = (chair("no", (("begin", "no"), 0)), (one, IDLE))
        told = [
            ("answer", 0, "no"), ("answer", 0, "yes"), ("clear", 0), ("down", 0), ("down", 1), ("down", 2),
            ("fall", 0, 0), ("fall", 0, 1), ("fall", 0, 2), ("fall", 1, 0), ("forget",), ("refuse", 1), ("tell", 1),
            ("vote", 1),
        ]
        self.assertEqual(deeds_at(sample_book(), standing), told)

    def test_letters_that_come_again_and_again(self):
        book = sample_book(ready="forced", agreed="lazy", presume="no")
        told = {"told": ("yes",), "answered": ("yes",), "voted": True, "took": True}
        standing = (chair("yes", (("yes",), 1), True), (house("ready", log=(("ready",), 1), **told),))
        for _ in range(3):
            standing = behind(book, standing, ("hear", 0, "yes"))
            self.assertEqual(standing[1][0], house("yes", log=(("ready", "agreed"), 1), **told))
            standing = behind(book, standing, ("fall", 0, 1))


class Wrong(unittest.TestCase):
    def test_no_book_comes_first(self):
        for wrong in any_values():
            if type(wrong).__name__ != "Book":
                for standing, deed in ((first(1), ("ask",)), (None, None), ([], ("ask", 0))):
                    self.assertEqual(error_of(deeds_at, wrong, standing), ("BadBook", "book"))
                    self.assertEqual(error_of(behind, wrong, standing, deed), ("BadBook", "book"))
                    self.assertEqual(error_of(may_do, wrong, standing, deed), ("BadBook", "book"))

    def test_no_standing_comes_second(self):
        wrong_ones = [
            list(first(1)), (first(1)[0], [IDLE]), (first(1)[0], ()), (first(1)[0], (IDLE,) * 6), first(1) * 2,
            (("new", ((), False), False), (IDLE,)), (("new", NONE, 0), (IDLE,)), (chair("idle"), (IDLE,)),
            (chair("new", ([], 0)), (IDLE,)), (chair("new"), (("idle", NONE, False, [], (), False, False),)),
            (chair("new"), (house("idle", told=("yes", "no")),)), (chair("new"), (house("idle", took=1),)),
        ]
        for wrong in (*any_values(), *wrong_ones):
            before = exactly(wrong)
            for deed in (("ask",), None, ("ask", 0)):
                self.assertEqual(error_of(behind, sample_book(), wrong, deed), ("BadStanding",))
                self.assertEqual(error_of(may_do, sample_book(), wrong, deed), ("BadStanding",))
            self.assertEqual(error_of(deeds_at, sample_book(), wrong), ("BadStanding",))
            self.assertEqual(exactly(wrong), before)

    def test_no_deed(self):
        ready = house("ready", log=(("ready",), 0), told=OUTCOMES, voted=True)
        ended = house("no", log=(("refused",), 0), told=OUTCOMES)
        wide = [(chair("asking"), (ready, ready)), (chair("no"), (ended, ended)), (chair("new"), (IDLE, IDLE))]
        for standing in (*wide, *[(one, houses[:1]) for one, houses in wide]):
            deeds = deeds_at(sample_book(), standing)
            for wrong in wrong_deeds(len(standing[1])):
                before = exactly(wrong)
                self.assertNotIn(before, [exactly(deed) for deed in deeds])
                self.assertIs(may_do(sample_book(), standing, wrong), False, wrong)
                self.assertEqual(error_of(behind, sample_book(), standing, wrong), ("BadDeed", 0))
                self.assertEqual(exactly(wrong), before)

    def test_a_list_or_a_bool_or_a_word_more_or_less_at_each_deed(self):
        for book in all_books()[::1201]:
            for standing in list(model_graph(book))[::9]:
                for deed in deeds_at(book, standing):
                    near = [list(deed), deed[:-1], (*deed, 0), (*deed, "no"), (deed,), (*deed, deed[-1])]
                    near.extend([tuple([bool(one) if one in (0, 1) else one for one in deed])] * (len(deed) > 1))
                    for wrong in near:
                        if exactly(wrong) != exactly(deed):
                            self.assertIs(may_do(book, standing, wrong), False, wrong)
                            self.assertEqual(error_of(behind, book, standing, wrong), ("BadDeed", 0))


if __name__ == "__main__":
    unittest.main()
