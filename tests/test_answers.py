"""Promise 7: answers."""

import unittest

from helper import (EIGHT_FIELDS, FORTY_ENTRIES, NO_TREES, NOT_NOW, NOTHING, TREES, WRONG, fault, fed, found, last,
                    number, result, run, texts, tokens_as_calls)

BILLION = 1000000000
NEW = [0, 0, 0, 0, 0]

# Every kind of question: each chain by itself, and within try, first, count and sum.
CHAINS = [".", "..", ".a", ".[1]", ".[1:]", ".[:2]", ".[:]", ".[]", "(.[] | .a)", "(.[] | .[0])", "(.[] | .[])",
          "(.a | ..)", "where((. = 1))", "(.. | where((2 < .)))", "(.[] | where(not((. < \"b\"))))",
          "((.[] | .) | (.. | where(((. = 1) or (. = null)))))"]
AROUND = ["%s", "try(%s)", "first(0, %s)", "first(1, %s)", "first(2, %s)", "first(3, %s)", "first(60, %s)"]
FOLDS = ["%s", "count(%s)", "sum(%s)"]
QUESTIONS = [fold % (around % chain) for chain in CHAINS for around in AROUND for fold in FOLDS]


def answered(question, tree):
    return last(("question", question), ("answers", tree))


class WhatIsToldAndTheEnd(unittest.TestCase):
    def test_the_examples(self):
        given = run(("question", "count(..)"), ("answers", "[1, [2]]"),
                    ("question", "first(2, (.. | where((2 < .))))"), ("answers", "[1, 3, {a: 4}]"))
        self.assertEqual(given, [[0], [0] + number(4),
                                 [0], fed(result("/", "["), result("/1", "3")) + found(2)])

    def test_number_by_number(self):
        self.assertEqual(last(("answers", "7")), [1, 1, 1, 47, 1, 55, 0, 1])
        self.assertEqual(answered("(.[] | .n)", "[{n: 5}, 7]"),
                         [2, 1, 4, 47, 48, 47, 110, 1, 53, 2, 1, 2, 47, 49, 2, 1, 2, 47, 49])
        self.assertEqual(answered("sum(.)", "-7"), [0, 1, -7])
        self.assertEqual(answered("sum(.)", "null"), [0, 2, 4, 1, 47])

    def test_every_sort_of_tree(self):
        for tree in TREES:
            head = tree[0] if tree[0] in "[{" else tree
            self.assertEqual(last(("answers", tree)), fed(result("/", head)) + found(1), tree)

    def test_chains(self):
        tree = "{a: [1, {b: 2}], c: \"x\"}"
        for question, things in (
                (".", [result("/", "{")]),
                (".a", [result("/a", "[")]),
                (".b", []),
                ("(.a | .[1])", [result("/a/1", "{")]),
                ("(.a | .[:])", [result("/a/0", "1"), result("/a/1", "{")]),
                ("(.a | .[1:100])", [result("/a/1", "{")]),
                (".[]", [result("/a", "["), result("/c", "\"x\"")]),
                ("(.a | ..)", [result("/a", "["), result("/a/0", "1"), result("/a/1", "{"), result("/a/1/b", "2")]),
                ("(.. | where((. < 3)))", [result("/a/0", "1"), result("/a/1/b", "2")]),
                ("(.[] | where((. = \"x\")))", [result("/c", "\"x\"")])):
            self.assertEqual(answered(question, tree), fed(*things) + found(len(things)), question)

    def test_each_fault_of_a_chain(self):
        for question, tree, things, end in (
                ("(.[] | .a)", "[{a: 1}, [2], {a: 3}]", [result("/0/a", "1")], fault(1, "/1")),
                ("(.[] | .[0])", "[[1], {a: 2}, [3]]", [result("/0/0", "1")], fault(2, "/1")),
                ("(.[] | .[0:])", "[[1], null, [3]]", [result("/0/0", "1")], fault(2, "/1")),
                ("(.[] | .[])", "[[1], {a: 2}, 3, [4]]", [result("/0/0", "1"), result("/1/a", "2")], fault(3, "/2")),
                (".a", "5", [], fault(1, "/"))):
            self.assertEqual(answered(question, tree), fed(*things, end) + end, question)
            self.assertEqual(answered("try(%s)" % question, tree), fed(*things) + found(len(things)), question)
            self.assertEqual(answered("first(9, %s)" % question, tree), fed(*things, end) + end, question)
            self.assertEqual(answered("count(%s)" % question, tree), [0] + end, question)
            self.assertEqual(answered("sum(%s)" % question, tree), [0] + end, question)
            self.assertEqual(answered("count(try(%s))" % question, tree), [0] + number(len(things)), question)

    def test_first(self):
        tree = "[1, 2, 3]"
        things = [result("/%d" % item, str(item + 1)) for item in range(3)]
        for limit in (0, 1, 2, 3, 4, 60):
            here = things[:limit]
            self.assertEqual(answered("first(%d, .[])" % limit, tree), fed(*here) + found(len(here)))
            self.assertEqual(answered("count(first(%d, .[]))" % limit, tree), [0] + number(len(here)))
            self.assertEqual(answered("sum(first(%d, .[]))" % limit, tree), [0] + number([0, 1, 3, 6, 6][min(limit, 4)]))

    def test_a_fault_that_first_drops(self):
        self.assertEqual(answered("first(1, (.[] | .a))", "[{a: 1}, 2]"), fed(result("/0/a", "1")) + found(1))
        self.assertEqual(answered("first(0, .a)", "5"), [0] + found(0))
        self.assertEqual(answered("sum(first(1, (.[] | .a)))", "[{a: 1}, 2]"), [0] + number(1))

    def test_the_faults_of_sum(self):
        for items, end in (("1, -5, 30", number(26)), ("", number(0)), ("1, null, []", fault(4, "/1")),
                           ("[]", fault(4, "/0")), ("1000000000", number(BILLION)), ("1000000000, 1", fault(6, "/")),
                           ("-1000000000, -1", fault(6, "/")), ("1000000000, 1, -1", number(BILLION)),
                           ("1000000000, 1, true", fault(4, "/2"))):
            self.assertEqual(answered("sum(.[])", "[%s]" % items), [0] + end, items)
        self.assertEqual(answered("sum((.[] | .a))", "[{a: null}, 3]"), [0] + fault(1, "/1"))

    def test_at_the_bounds(self):
        self.assertEqual(answered("count(..)", FORTY_ENTRIES), [0] + number(40))
        self.assertEqual(answered("..", "[[[[[[]]]]]]"), fed(*[result("/0" * deep or "/", "[") for deep in range(6)]) + found(6))
        self.assertEqual(answered(".[]", EIGHT_FIELDS), fed(*[result("/" + name, "0") for name in "abcdefgh"]) + found(8))
        self.assertEqual(answered("first(40, ..)", FORTY_ENTRIES)[-2:], found(40))
        self.assertEqual(answered("first(60, ..)", FORTY_ENTRIES)[-2:], found(40))

    def test_as_if_question_feed_and_finish_came(self):
        trees = ["[1, 3, {a: 4}]", "[{a: 1}, {a: [2]}, 3]", "{a: [1, null], b: \"c\"}", "[1000000000, 1]", "[[1], [2, 3]]",
                 "[{}, {a: 1}, [null]]", "null", "1", "[]", "{}"]
        for question in QUESTIONS:
            for tree in trees:
                told, end, once = run(("question", question), ("feed", tree), ("finish",), ("answers", tree))[1:]
                self.assertEqual(once, told + end, (question, tree))
                self.assertEqual(answered(question, tree), once, (question, tree))


class TextsOfNoTrees(unittest.TestCase):
    def test_they_are_refused(self):
        for text in NO_TREES:
            self.assertEqual(run(("answers", text), ("room",)), [WRONG, NEW], text)
            self.assertEqual(run(("token", "["), ("answers", text), ("room",))[1:], [WRONG, [1, 1, 1, 0, 0]], text)

    def test_whatever_the_question_is(self):
        for question in ("first(0, .)", "first(1, .)", ".a", "try(.a)", "count(..)", "sum(..)"):
            for text in ("", "[1", "[1]]", "[1, x]", "[" * 3000, "a:", "]"):
                self.assertEqual(answered(question, text), WRONG, (question, text))

    def test_bytes_that_are_no_signs(self):
        for byte in (0, 10, 31, 127, 128, 255):
            for text in ([byte], [49, byte], [91, byte, 93], [34, byte, 34]):
                self.assertEqual(last(("answers", text)), WRONG)


class AtAnyTime(unittest.TestCase):
    def test_the_question_is_the_one_of_now(self):
        given = run(("answers", "[1]"), ("question", ".[]"), ("answers", "[1]"), ("question", "x"), ("answers", "[1]"),
                    ("again",), ("answers", "[1]"))
        items = fed(result("/0", "1")) + found(1)
        self.assertEqual(given, [fed(result("/", "[")) + found(1), [1], items, WRONG, items, [0], items])

    def test_it_is_the_same_wherever_the_stream_is(self):
        for question in QUESTIONS:
            other = ("answers", "[{a: 7}, 8, [1]]")
            awaited = last(("question", question), other)
            calls = [("question", question), other]
            for text in ("[", "{", "a:", "1", "}", "[", "5", "]", "null", "]"):
                calls.extend([("token", text), other])
            given = run(*calls)
            self.assertEqual(given[1::2], [awaited] * 11, question)

    def test_it_needs_no_place_for_the_tree(self):
        awaited = fed(result("/", "[")) + found(1)
        for come in (["5"], ["[", "]"], ["{"], ["{", "a:"], ["["] * 6, ["["] + ["0"] * 10):
            calls = tokens_as_calls(come)
            before = last(*calls, ("room",))
            for tree in ("[[[[[[]]]]]]", FORTY_ENTRIES):
                self.assertEqual(run(*calls, ("answers", tree), ("room",), ("feed", "[[[[[[]]]]]]"))[-3:-1],
                                 [awaited, before], (come, tree))

    def test_behind_a_fault_and_behind_the_last_result(self):
        one = result("/0/a", "1")
        for question, awaited in (("(.[] | .a)", fed(one, fault(1, "/1")) + fault(1, "/1")),
                                  ("try((.[] | .a))", fed(one) + found(1)),
                                  ("first(1, (.[] | .a))", fed(one) + found(1)),
                                  ("count(try((.[] | .a)))", [0] + number(1))):
            given = run(("question", question), ("feed", "[{a: 2}, 3]"), ("room",), ("answers", "[{a: 1}, 4]"), ("room",))
            self.assertEqual(given[2:], [[0, 2, 4, 1, 1], awaited, [0, 2, 4, 1, 1]], question)


class NothingChanges(unittest.TestCase):
    TOKENS = ["[", "{", "a:", "1", "}", "{", "a:", "[", "2", "]", "}", "3", "{", "a:", "4", "}", "]"]

    def test_what_has_come_and_was_found_stays(self):
        for question in QUESTIONS:
            plain = [("question", question)]
            mixed = [("question", question)]
            for call in tokens_as_calls(self.TOKENS) + [("finish",)]:
                plain.extend([call, ("room",)])
                mixed.extend([call, ("room",), ("answers", "[{a: 7}, 8, null]")])
            given = run(*mixed)
            kept = [answer for at, answer in enumerate(given) if at == 0 or at % 3 != 0]
            self.assertEqual(kept, run(*plain), question)

    def test_every_call_that_is_to_change_nothing(self):
        calls = [("question", "(.[] | .n)"), ("token", "["), ("feed", "{n: 5}"), ("token", "{"), ("token", "n:"),
                 ("token", "6"), ("token", "}"), ("token", "7"), ("token", "]"), ("finish",)]
        once = run(*calls)
        for others in ([("answers", "[{n: 1}, 2]")], [("answers", "[")], [("answers", "[[[[[[]]]]]]"), ("room",)],
                       [("tokens", "{n: 1}"), ("answers", "{n: 1}")], [("answers", "")] * 9,
                       [("question", "(.. | .a)"), ("question", "")], [("token", "a"), ("token", "00"), ("token", ",")],
                       [("feed", "{n: 5"), ("feed", "[" * 3000)]):
            line = []
            for call in calls:
                line.extend([call] + others)
            self.assertEqual(run(*line)[::1 + len(others)], once, others)

    def test_the_example_whole(self):
        given = run(("question", "(.[] | .n)"), ("token", "["), ("feed", "{n: 5}"), ("token", "7"), ("token", "]"),
                    ("finish",), ("room",), ("token", "]"), ("question", "count(..)"), ("answers", "[1, [2]]"),
                    ("question", "first(2, (.. | where((2 < .))))"), ("answers", "[1, 3, {a: 4}]"),
                    ("tokens", "{a: [null]}"))
        self.assertEqual(given, [
            [2], NOTHING, fed(result("/0/n", "5")), fault(1, "/1"), NOTHING, fault(1, "/1"), [0, 2, 4, 1, 1], NOT_NOW,
            [0], [0, 1, 4], [0], [2] + result("/", "[") + result("/1", "3") + [0, 2],
            texts("{", "a:", "[", "null", "]", "}")])


if __name__ == "__main__":
    unittest.main()
