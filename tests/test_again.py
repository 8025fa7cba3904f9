"""Promise 5: again."""

import unittest

from helper import (FORTY_ENTRIES, NOT_NOW, NOTHING, WRONG, fault, fed, found, last, number, result, run,
                    tokens_as_calls)

NEW = [0, 0, 0, 0, 0]


class HowManyHadBegun(unittest.TestCase):
    def test_at_the_beginning(self):
        self.assertEqual(run(("again",), ("room",)), [[0], NEW])

    def test_behind_every_token(self):
        tokens = ["[", "{", "a:", "1", "b:", "[", "]", "}", "[", "]", "7", "]"]
        for come, begun in enumerate([0, 1, 2, 2, 3, 3, 4, 4, 4, 5, 5, 6, 6]):
            given = run(*tokens_as_calls(tokens[:come]), ("again",), ("room",))
            self.assertEqual(given[-2:], [[begun], NEW], come)

    def test_behind_a_whole_tree(self):
        for tree, begun in (("5", 1), ("[]", 1), ("{}", 1), ("[1, [2]]", 4), ("{a: {b: null}}", 3), (FORTY_ENTRIES, 40)):
            self.assertEqual(run(("feed", tree), ("again",), ("room",))[1:], [[begun], NEW], tree)

    def test_entries_behind_a_halt_count_too(self):
        for question in ("first(0, .)", "first(1, .)", ".a", "try(.a)", "count(.a)", "sum(try(.a))"):
            self.assertEqual(run(("question", question), ("feed", "[1, 2, [3]]"), ("again",))[2], [5], question)
            self.assertEqual(run(("question", question), ("token", "["), ("feed", "[3]"), ("again",))[3], [3], question)

    def test_twice_running(self):
        given = run(("feed", "[1, 2]"), ("again",), ("again",), ("room",), ("feed", "7"), ("again",), ("again",))
        self.assertEqual(given[1:], [[3], [0], NEW, fed(result("/", "7")), [1], [0]])

    def test_refused_and_other_calls_begin_no_entries(self):
        given = run(("token", "["), ("token", "}"), ("feed", "[[[[[[]]]]]]"), ("feed", "[1"), ("tokens", "[1, 2]"),
                    ("answers", "[1, 2]"), ("again",))
        self.assertEqual(given[-1], [1])

    def test_behind_a_question(self):
        self.assertEqual(run(("feed", "[1]"), ("question", ".."), ("again",))[1:], [[0], [0]])
        self.assertEqual(run(("feed", "[1]"), ("question", "..."), ("again",))[1:], [WRONG, [2]])


class WhatIsAsItWasNew(unittest.TestCase):
    def test_the_first_tokens_alone_can_come(self):
        for come in ([], ["["], ["{", "a:"], ["{", "b:", "1"], ["5"], ["[", "]"]):
            calls = tokens_as_calls(come) + [("again",)]
            for text in ("]", "}", "a:"):
                self.assertEqual(run(*calls, ("token", text), ("finish",))[-2:], [NOT_NOW, NOT_NOW], (come, text))
            self.assertEqual(run(*calls, ("feed", "[1]"), ("finish",))[-2:], [fed(result("/", "[")), found(1)], come)

    def test_the_bounds_are_counted_anew(self):
        for tree in (FORTY_ENTRIES, "[[[[[[]]]]]]"):
            self.assertEqual(run(("feed", tree), ("again",), ("feed", tree), ("finish",))[2:],
                             [fed(result("/", "[")), found(1)])
        given = run(("token", "{"), ("token", "b:"), ("again",), ("token", "{"), ("token", "a:"), ("feed", "1"),
                    ("token", "}"))
        self.assertEqual(given[3:], [result("/", "{"), NOTHING, [0], NOTHING])

    def test_finish_is_refused(self):
        given = run(("feed", "[1]"), ("finish",), ("again",), ("finish",), ("room",))
        self.assertEqual(given[1:], [found(1), [2], NOT_NOW, NEW])

    def test_places_begin_anew(self):
        given = run(("question", ".."), ("token", "["), ("feed", "1"), ("again",), ("token", "["), ("feed", "2"))
        self.assertEqual(given[3:], [[2], result("/", "["), fed(result("/0", "2"))])


class TheQuestionStays(unittest.TestCase):
    def test_the_one_of_the_beginning(self):
        self.assertEqual(run(("again",), ("feed", "[1]"), ("finish",))[1:], [fed(result("/", "[")), found(1)])

    def test_the_one_that_was_asked(self):
        given = run(("question", ".[]"), ("token", "["), ("again",), ("feed", "[6, 7]"), ("finish",))
        self.assertEqual(given[2:], [[1], fed(result("/0", "6"), result("/1", "7")), found(2)])

    def test_behind_a_refused_one(self):
        given = run(("question", ".[]"), ("question", "x"), ("again",), ("question", ""), ("feed", "[6]"))
        self.assertEqual(given[2:], [[0], WRONG, fed(result("/0", "6"))])

    def test_all_kinds_answer_as_the_first_time(self):
        for question in (".", "..", ".[]", "(.[] | .a)", "try((.[] | .a))", "first(0, ..)", "first(1, ..)",
                         "first(3, ..)", "first(60, ..)", "count(..)", "count((.[] | .a))", "sum(.[])", "sum(..)",
                         "sum((.[] | .a))", "sum(first(2, .[]))", "(.. | where((2 < .)))"):
            for tree in ("[1, 3, {a: 4}]", "[{a: 1}, 2]", "[1000000000, 1]", "[5, -7]", "{a: {a: 9}}", "8", "[]"):
                reading = [("feed", tree), ("finish",), ("room",)]
                once = run(("question", question), *reading)[1:]
                given = run(("question", question), *reading, ("again",), *reading, ("again",), *reading)
                self.assertEqual([given[1:4], given[5:8], given[9:12]], [once] * 3, (question, tree))

    def test_what_was_found_is_forgotten(self):
        for question, one, other, end in (
                ("..", "[1, 2]", "3", found(1)),
                ("count(..)", "[1, 2]", "3", number(1)),
                ("sum(.[])", "[1, 2]", "[5]", number(5)),
                ("sum(.[])", "[null]", "[5]", number(5)),
                ("sum(.[])", "[1000000000, 1]", "[5]", number(5)),
                ("count(.a)", "7", "{a: 1}", number(1)),
                ("try(.a)", "7", "{a: 1}", found(1)),
                (".a", "7", "{a: 1}", found(1)),
                (".a", "{a: 1}", "7", fault(1, "/")),
                ("first(1, .[])", "[1]", "[2, 3]", found(1))):
            for half in (False, True):
                begun = [("token", "["), ("feed", one)] if half else [("feed", one)]
                self.assertEqual(last(("question", question), *begun, ("again",), ("feed", other), ("finish",)), end)


if __name__ == "__main__":
    unittest.main()
