"""Point 11: written and left_by."""

import unittest
from itertools import product

from presumebooks.books import left_by, written
from presumebooks.errors import BadBook, BadLog, BadRecord
from tests.samples import CHAIR, HOUSE, WORDS, any_values, exactly, logs_of, sample_book, spoil


def no_logs():
    """Values that are no logs, most of them nearly one."""
    return [
        *any_values(),
        ((),), ((), 0, 0), [(), 0], ([], 0), (["begin"], 1), [["begin"], 1], ({}, 0), ("", 0), ("yes", 1), (None, 0),
        ({"begin": 1}, 1), (0, ()), ((), None), ((), "0"), ((), False), ((), True), ((), 1), ((), -1), ((), ()),
        (("begin",), True), (("begin",), False), (("begin",), 2), (("begin",), -1), (("ready",), None),
        (("begin", "yes", "no"), 4), (("begin", "yes", "no"), 10 ** 29), (("ready", "agreed"), [2]),
        (("begin", "begin"), 1), (("begin", "yes", "begin"), 0), (("ready", "ready"), 2), (("no", "no"), 0),
        (("begin", "ready"), 1), (("ready", "yes"), 0), (("agreed", "refused", "no"), 2), (("yes", "agreed"), 2),
        (("wrong",), 0), (("begin", "wrong"), 0), ((None,), 0), ((1,), 0), ((True,), 1), ((("begin",),), 0),
        ((["begin"],), 0), (({},), 1), ((sample_book(),), 0), (("begin", 0), 0), (("asking",), 0), (("none",), 1),
    ]


class Written(unittest.TestCase):
    def test_all_logs_by_each_word(self):
        for side in (CHAIR, HOUSE):
            for log, record, word in product(logs_of(side), side, WORDS):
                records, safe = log
                if word == "none" or record in records:
                    told = log
                elif word == "lazy":
                    told = (records + (record,), safe)
                else:
                    told = (records + (record,), len(records) + 1)
                self.assertEqual(exactly(written(sample_book(**{record: word}), log, record)), exactly(told))

    def test_only_the_word_of_this_record_counts(self):
        for side, word in product((CHAIR, HOUSE), WORDS):
            for record in side:
                others = {other: "forced" for other in (*CHAIR, *HOUSE) if other != record}
                log = written(sample_book(**others, **{record: word}), ((), 0), record)
                told = {"none": ((), 0), "lazy": ((record,), 0), "forced": ((record,), 1)}
                self.assertEqual(log, told[word])

    def test_forced_makes_safe_what_stands_ahead(self):
        book = sample_book(begin="lazy", yes="forced")
        self.assertEqual(written(book, (("begin",), 0), "yes"), (("begin", "yes"), 2))

    def test_there_already_and_not_safe(self):
        log = (("ready", "agreed"), 0)
        for record in log[0]:
            self.assertEqual(written(sample_book(ready="forced", agreed="forced"), log, record), log)

    def test_by_name(self):
        log = written(record="no", log=(("begin",), 1), book=sample_book(no="lazy"))
        self.assertEqual(log, (("begin", "no"), 1))

    def test_no_book(self):
        for wrong in any_values():
            if not isinstance(wrong, type(sample_book())):
                for log, record in (((((), 0)), "yes"), (None, "yes"), (((), 0), None), (None, None)):
                    with self.assertRaises(BadBook) as caught:
                        written(wrong, log, record)
                    self.assertEqual(caught.exception.part, "book")

    def test_no_log(self):
        for wrong, record in product(no_logs(), ("begin", "ready", "wrong", None)):
            before = exactly(wrong)
            with self.assertRaises(BadLog):
                written(sample_book(), wrong, record)
            self.assertEqual(exactly(wrong), before)

    def test_no_record(self):
        for log in (((), 0), (("begin",), 0), (("ready", "agreed"), 1)):
            for wrong in (*any_values(), "answers", "forced", "wait", ("yes",)):
                with self.assertRaises(BadRecord) as caught:
                    written(sample_book(), log, wrong)
                self.assertEqual(exactly(caught.exception.record), exactly(wrong))

    def test_a_record_of_the_other_ones(self):
        for side, other in ((CHAIR, HOUSE), (HOUSE, CHAIR)):
            for log, record, word in product(logs_of(side), other, WORDS):
                book = sample_book(**{record: word})
                if log == ((), 0):
                    self.assertEqual(len(written(book, log, record)[0]), int(word != "none"))
                    continue
                with self.assertRaises(BadRecord) as caught:
                    written(book, log, record)
                self.assertEqual(caught.exception.record, record)

    def test_the_error_keeps_what_was_passed(self):
        wrong = [["yes"]]
        with self.assertRaises(BadRecord) as caught:
            written(sample_book(), ((), 0), wrong)
        spoil(wrong)
        self.assertEqual(caught.exception.record, [["yes"]])


class LeftBy(unittest.TestCase):
    def test_all_logs(self):
        for log in (*logs_of(CHAIR), *logs_of(HOUSE)):
            records, safe = log
            told = sorted([(records[:left], left) for left in range(4) if safe <= left <= len(records)])
            self.assertEqual(exactly(left_by(log)), exactly(told))
            self.assertEqual(len(told), len(records) - safe + 1)

    def test_examples(self):
        self.assertEqual(left_by(((), 0)), [((), 0)])
        self.assertEqual(left_by((("begin", "yes"), 2)), [(("begin", "yes"), 2)])
        self.assertEqual(left_by((("begin", "no"), 1)), [(("begin",), 1), (("begin", "no"), 2)])
        self.assertEqual(
            left_by(log=(("ready", "refused"), 0)), [((), 0), (("ready",), 1), (("ready", "refused"), 2)]
        )

    def test_the_list_is_new(self):
        log = (("begin", "no"), 0)
        left_by(log).clear()
        self.assertEqual(len(left_by(log)), 3)

    def test_no_log(self):
        for wrong in no_logs():
            before = exactly(wrong)
            with self.assertRaises(BadLog):
                left_by(wrong)
            self.assertEqual(exactly(wrong), before)


if __name__ == "__main__":
    unittest.main()
