"""Point 121: class Desk."""

import unittest
from itertools import product
from random import Random

from presumebooks.desk import Desk
from presumebooks.many import is_alike
from presumebooks.office import Office
from presumebooks.texts import book_text, read_run, run_text
from presumebooks.wishes import breaker, holds
from tests.model import deeds_by_form
from tests.samples import (
    WISHES, all_books, any_values, error_of, exactly, nothing_presumed, presumed_no, presumed_yes, sample_book,
)

NO = "not understood"
QUESTIONS = ("chair", "log", "alike", "doubt", *[f"{word} {k}" for word in ("house", "log") for k in range(5)])
UNKNOWN = (
    "", " ", "x", "chair ", " chair", "Chair", "CHAIR", "chair 0", "chair\n", "\nchair", "chair chair", "house",
    "house ", "house x", "house 00", "house 01", "house 007", "house 100", "house -1", "house +1", "house  0",
    "house 0 ", "house 0 0", "House 0", "house 0\n", "house 1.", "house one", "log ", "log x", "log 00", "log 01",
    "log 100", "log  0", "log 0 0", "Log", "log\n", "logs", "wish", "wish ", "wish x", "wish Kept", "wish kept ",
    "wish  kept", "wish kept kept", "wish 0", "wish kept\n", "Wish kept", "alike ", "alike 0", "Alike", "alike\n",
    "doubt ", "doubt 0", "Doubt", "undo ", "undo 0", "Undo", "undo\n", "undo undo", "ask ", " ask", "Ask", "ask 0",
    "ask\n", "ask\nask", "vote", "vote ", "vote 00", "vote 01", "vote 100", "vote -1", "vote  0", "vote 0 0",
    "vote 0\n", "vote x", "Vote 0", "decide", "decide wait", "decide Yes", "decide yes ", "decide yes yes",
    "hear 0", "hear 0 wait", "hear yes 0", "hear 0  no", "answer 0", "fall 0", "fall 0 00", "fall 0 100",
    "fall 0 0 0", "fall 00 0", "down", "down 01", "down 100", "down no", "swap", "swap begin", "book", "may",
    "kept", "holds", "houses", "standing", "is", "0", "12", "ask; vote 0", "ok", "house k",
)


def state(desk):
    """All that a desk answers of itself."""
    return [desk.say(line) for line in QUESTIONS]


def told_log(log):
    """A line of a log, told a second time."""
    records, safe = log
    marked = [records[at] + "!" * (at < safe) for at in range(len(records))]
    return " ".join(marked) or "-"


def told_state(office):
    """What a desk with such an office answers of itself."""
    (memory, log, _), houses = office.standing
    ready = [str(k) for k in range(len(houses)) if houses[k][0] == "ready"]
    answers = [memory, told_log(log), "yes" if is_alike(office.book) else "no", " ".join(ready) or "-"]
    answers.extend([houses[k][0] if k < len(houses) else "error BadNumber" for k in range(5)])
    answers.extend([told_log(houses[k][1]) if k < len(houses) else "error BadNumber" for k in range(5)])
    return answers


def line_of(deed):
    """The line of a deed."""
    return " ".join([str(part) for part in deed])


class Made(unittest.TestCase):
    def test_at_the_beginning(self):
        for houses in range(1, 6):
            desk = Desk(houses=houses, text=book_text(sample_book()))
            self.assertEqual(state(desk), told_state(Office(sample_book(), houses)))
            self.assertEqual(desk.say(line="chair"), "new")
            self.assertEqual(desk.say("undo"), "error NothingDone")

    def test_errors_in_their_order(self):
        text = book_text(sample_book())
        lines = text.split("\n")[:-1]
        for wrong in any_values():
            for houses in (1, 0, None):
                self.assertEqual(exactly(error_of(Desk, wrong, houses)), exactly(("BadText", 0)))
            if type(wrong) is not int or not 1 <= wrong <= 5:
                name, number = error_of(Desk, text, wrong)
                self.assertEqual((name, exactly(number)), ("BadNumber", exactly(wrong)))
        for at, houses in product(range(8), (1, 6, True)):
            broken = "".join([line + "\n" for line in [*lines[:at], "x", *lines[at + 1 :]]])
            self.assertEqual(error_of(Desk, broken, houses), ("BadText", at))
            self.assertEqual(error_of(Desk, text + "x", houses), ("BadText", 8))
        for houses in (0, 6, -1, 10 ** 29):
            self.assertEqual(error_of(Desk, text, houses), ("BadNumber", houses))

    def test_kinds(self):
        desk = Desk(book_text(sample_book()), 2)
        for call in (iter, list, tuple):
            with self.assertRaises(TypeError):
                call(desk)
        for other in any_values():
            self.assertFalse(desk == other)


class Deeds(unittest.TestCase):
    def test_done_and_refused_and_undone(self):
        draw = Random(121)
        for turn, book in enumerate(draw.sample(all_books(), 20)):
            houses = turn % 5 + 1
            desk, office = Desk(book_text(book), houses), Office(book, houses)
            for _ in range(25):
                before = state(desk)
                refused = [deed for deed in deeds_by_form(houses) if deed not in office.may()]
                for deed in draw.sample(refused, 3):
                    self.assertEqual(desk.say(line_of(deed)), "error BadDeed")
                self.assertEqual(state(desk), before)
                if office.log and draw.randrange(5) == 0:
                    self.assertEqual(desk.say("undo"), "ok")
                    office.undo()
                deed = draw.choice(office.may())
                self.assertEqual(desk.say(line_of(deed)), "ok")
                office.do(deed)
                self.assertEqual(state(desk), told_state(office))
            while office.log:
                self.assertEqual(desk.say("undo"), "ok")
                office.undo()
                self.assertEqual(state(desk), told_state(office))
            self.assertEqual(desk.say("undo"), "error NothingDone")
            self.assertEqual(state(desk), told_state(office))

    def test_one_that_is_plain(self):
        desk = Desk(book_text(presumed_no(begin="lazy", refused="lazy", agreed="lazy")), 2)
        said = [desk.say(line) for line in (
            "log", "log 0", "doubt", "ask", "log", "vote 0", "vote 1", "doubt", "log 1", "decide yes", "log", "chair",
            "tell 1", "hear 1 yes", "log 1", "house 1", "doubt", "fall 1 1", "log 1", "house 1", "undo", "house 1",
            "forget", "down 1", "down 2", "hear 0 yes", "tell 0", "hear 0 yes", "answer 0 yes", "clear 0", "log 0",
            "house 0", "doubt",
        )]
        self.assertEqual(said, [
            "-", "-", "-", "ok", "begin", "ok", "ok", "0 1", "ready!", "ok", "begin! yes!", "yes",
            "ok", "ok", "ready! agreed", "yes", "0", "ok", "ready!", "ready", "ok", "yes",
            "error BadDeed", "error BadDeed", "ok", "error BadDeed", "ok", "ok", "ok", "ok", "-",
            "empty", "-",
        ])

    def test_houses_that_are_none(self):
        for houses in range(1, 6):
            desk = Desk(book_text(sample_book()), houses)
            before = state(desk)
            for k in range(100):
                for word, wanted in (("house", "idle"), ("log", "-")):
                    self.assertEqual(desk.say(f"{word} {k}"), wanted if k < houses else "error BadNumber")
                if k >= houses:
                    for line in (f"refuse {k}", f"vote {k}", f"fall {k} 0", f"hear {k} no", f"clear {k}"):
                        self.assertEqual(desk.say(line), "error BadDeed")
            self.assertEqual(state(desk), before)


class Wishes(unittest.TestCase):
    def test_wishes_that_hold_and_broken_ones(self):
        seen = set()
        books = [*all_books()[::407], presumed_no(), presumed_yes(), nothing_presumed()]
        for turn, book in enumerate(books):
            desk = Desk(book_text(book), turn % 5 + 1)
            desk.say("ask")
            before = state(desk)
            for wish in WISHES:
                said = desk.say(f"wish {wish}")
                seen.add((wish, said == "holds"))
                self.assertEqual(said == "holds", holds(book, wish))
                if said != "holds":
                    self.assertEqual(said, "; ".join(run_text(breaker(book, wish)).split("\n")[:-1]))
                    self.assertEqual(read_run(said.replace("; ", "\n") + "\n"), breaker(book, wish))
            self.assertEqual(desk.say("alike"), "yes" if is_alike(book) else "no")
            self.assertEqual(state(desk), before)
        self.assertEqual(len(seen), 8)

    def test_some_that_are_plain(self):
        desk = Desk(book_text(presumed_no()), 1)
        self.assertEqual([desk.say(f"wish {wish}") for wish in WISHES], ["holds"] * 4)
        self.assertEqual(desk.say("alike"), "yes")
        desk = Desk(book_text(presumed_no(ready="none")), 3)
        self.assertEqual(desk.say("wish honest"), "holds")
        said = desk.say("wish kept")
        self.assertEqual(sorted(said.split("; ")), ["ask", "decide yes", "fall 0 0", "vote 0"])
        self.assertEqual(desk.say("alike"), "no")


class NotUnderstood(unittest.TestCase):
    def test_lines_of_no_form(self):
        desk = Desk(book_text(presumed_no()), 2)
        for ahead in ((), ("ask", "vote 0")):
            for line in ahead:
                self.assertEqual(desk.say(line), "ok")
            before = state(desk)
            for line in UNKNOWN:
                self.assertEqual(desk.say(line), NO, line)
            self.assertEqual(state(desk), before)

    def test_values_that_are_no_text(self):
        desk = Desk(book_text(presumed_no()), 2)
        desk.say("ask")
        before = state(desk)
        for wrong in (*any_values(), ["ask"], ("ask",), ("vote", 0), ["chair"], {"chair": 0}, [("vote", 0)]):
            kept = exactly(wrong)
            self.assertEqual(desk.say(wrong), NO)
            self.assertEqual(exactly(wrong), kept)
        self.assertEqual(state(desk), before)


class TwoAtATime(unittest.TestCase):
    def test_they_know_nothing_of_each_other(self):
        one, other = Desk(book_text(presumed_no()), 2), Desk(book_text(presumed_no()), 2)
        before = state(other)
        for line in ("ask", "vote 1", "refuse 0"):
            self.assertEqual(one.say(line), "ok")
        self.assertEqual(state(other), before)
        self.assertEqual(other.say("undo"), "error NothingDone")
        self.assertEqual(other.say("ask"), "ok")
        self.assertEqual(one.say("undo"), "ok")
        self.assertEqual((one.say("house 0"), other.say("house 0")), ("idle", "idle"))
        self.assertEqual((one.say("doubt"), other.say("doubt")), ("1", "-"))


if __name__ == "__main__":
    unittest.main()
