"""Promise 3: feed."""

import unittest

from helper import (FORTY_ENTRIES, NO_TREES, NOT_NOW, NOTHING, TREES, WRONG, fault, fed, found, last, result, run,
                    tokens_as_calls)

ROOM = ("room",)


class TextsOfTrees(unittest.TestCase):
    def test_trees(self):
        for text in TREES:
            given = run(("feed", text), ("finish",))
            head = text[0] if text[0] in "[{" else text
            self.assertEqual(given, [fed(result("/", head)), found(1)], text)

    def test_texts_that_are_no_trees(self):
        for text in NO_TREES:
            self.assertEqual(run(("feed", text), ROOM), [WRONG, [0, 0, 0, 0, 0]], text)
            self.assertEqual(run(("token", "["), ("feed", text), ROOM)[1:], [WRONG, [1, 1, 1, 0, 0]], text)

    def test_bytes_that_are_no_signs(self):
        for byte in (0, 10, 31, 127, 128, 255):
            for text in ([byte], [49, byte], [91, byte, 93], [34, byte, 34], [91, 49, 44, byte, 49, 93]):
                self.assertEqual(last(("feed", text)), WRONG)

    def test_each_beginning_of_a_tree_but_itself(self):
        text = "{a: [1, \"b\\\"\", null], b: {}, c: -12}"
        self.assertEqual(run(("question", "count(..)"), ("feed", text)), [[0], [0]])
        for end in range(len(text)):
            self.assertEqual(last(("feed", text[:end])), WRONG, text[:end])

    def test_the_longest_text(self):
        long_text = "\"" + "\\\\" * 20 + "\""
        tree = FORTY_ENTRIES.replace("1", long_text)
        self.assertLessEqual(len(tree), 3000)
        self.assertEqual(last(("feed", tree)), fed(result("/", "[")))

    def test_wrong_text_before_what_can_come(self):
        self.assertEqual(run(("feed", "1"), ("feed", "[1"), ("feed", "[1]"))[1:], [WRONG, NOT_NOW])


class WhatIsTold(unittest.TestCase):
    def test_the_example(self):
        given = run(("question", "(.[] | .n)"), ("token", "["), ("feed", "{n: 5}"), ("token", "7"), ("token", "]"),
                    ("finish",), ROOM, ("token", "]"), ("question", "count(..)"))
        self.assertEqual(given, [[2], NOTHING, [1] + result("/0/n", "5"), fault(1, "/1"), NOTHING, fault(1, "/1"),
                                 [0, 2, 4, 1, 1], NOT_NOW, [0]])

    def test_results_in_order(self):
        given = last(("question", ".."), ("feed", "[1, {a: [null], b: \"x\"}, []]"))
        self.assertEqual(given, fed(result("/", "["), result("/0", "1"), result("/1", "{"), result("/1/a", "["),
                                    result("/1/a/0", "null"), result("/1/b", "\"x\""), result("/2", "[")))

    def test_nothing_told(self):
        for question in (".b", "try(.[0])", "first(0, ..)", "count(..)", "sum(.a)", "count(.[0])", "where((. = 1))"):
            self.assertEqual(last(("question", question), ("feed", "{a: 1}")), [0], question)

    def test_results_and_then_a_fault(self):
        given = last(("question", "(.[] | .[])"), ("feed", "[[1, 2], {a: 3}, 4, 5, [6]]"))
        self.assertEqual(given, fed(result("/0/0", "1"), result("/0/1", "2"), result("/1/a", "3"), fault(3, "/2")))

    def test_places_have_the_item_of_the_stream(self):
        given = run(("question", ".."), ("token", "["), ("feed", "1"), ("token", "{"), ("token", "k:"),
                    ("feed", "[5, {z: 6}]"), ("token", "}"), ("feed", "7"), ("token", "]"), ("finish",))
        self.assertEqual(given[1:], [
            result("/", "["), fed(result("/0", "1")), result("/1", "{"), NOTHING,
            fed(result("/1/k", "["), result("/1/k/0", "5"), result("/1/k/1", "{"), result("/1/k/1/z", "6")),
            NOTHING, fed(result("/2", "7")), NOTHING, found(8)])


class WhatCanCome(unittest.TestCase):
    def test_where_no_tree_can_begin(self):
        for tokens in (["1"], ["[", "]"], ["{"], ["{", "a:", "1"], ["["] + ["1"] * 10, ["["] * 6):
            calls = tokens_as_calls(tokens)
            before = last(*calls, ROOM)
            for text in ("1", "[]", "{a: 1}"):
                self.assertEqual(run(*calls, ("feed", text), ROOM)[-2:], [NOT_NOW, before], (tokens, text))

    def test_too_deep_in_the_midst(self):
        for opening in (["[", "[", "["], ["[", "{", "a:", "["]):
            calls = tokens_as_calls(opening)
            before = last(*calls, ROOM)
            for text in ("[1, [[2]], [[[3]]], 4]", "{a: 1, b: [[{c: 1}]]}"):
                self.assertEqual(run(*calls, ("feed", text), ROOM)[-2:], [NOT_NOW, before])
            self.assertNotEqual(last(*calls, ("feed", "[1, [2], [[]], {a: {}}]")), NOT_NOW)

    def test_too_many_entries_in_the_midst(self):
        tree = "[" + ", ".join(["[" + ", ".join(["1"] * 10) + "]"] * 3) + "]"
        calls = [("question", "count(..)"), ("token", "["), ("feed", tree)]
        self.assertEqual(last(*calls, ROOM), [1, 3, 35, 0, 0])
        given = run(*calls, ("feed", "[1, 2, 3, 4, 5]"), ROOM, ("feed", "[1, 2, 3, 4]"), ROOM, ("feed", "1"),
                    ("token", "]"), ("finish",))
        self.assertEqual(given[3:], [NOT_NOW, [1, 3, 35, 0, 0], [0], [1, 3, 40, 0, 0], NOT_NOW, NOTHING, [1, 40]])

    def test_the_eleventh_item(self):
        calls = [("question", "count(.[])"), ("token", "[")] + [("feed", "[0]")] * 10
        self.assertEqual(run(*calls, ("feed", "1"), ROOM, ("token", "]"), ("finish",))[-4:],
                         [NOT_NOW, [1, 2, 21, 0, 0], NOTHING, [1, 10]])

    def test_behind_a_name(self):
        given = run(("question", ".a"), ("token", "{"), ("token", "a:"), ("feed", "[1]"), ("feed", "2"), ("token", "}"))
        self.assertEqual(given[3:], [fed(result("/a", "[")), NOT_NOW, NOTHING])

    def test_a_refused_feed_tells_finds_and_opens_nothing(self):
        calls = [("question", "first(3, ..)"), ("token", "["), ("token", "[")]
        given = run(*calls, ("feed", "[1, [2, [3, [4]]]]"), ROOM, ("feed", "[[[[]]]]"), ROOM)
        self.assertEqual(given[3:], [NOT_NOW, [2, 2, 2, 0, 0], fed(result("/0/0", "[")), [2, 6, 6, 0, 1]])
        given = run(("question", "(.[] | (.[] | .a))"), ("token", "["), ("token", "["), ("feed", "[[[[[]]]]]"), ROOM,
                    ("feed", "{a: 5}"))
        self.assertEqual(given[3:], [NOT_NOW, [2, 2, 2, 0, 0], fed(result("/0/0/a", "5"))])

    def test_a_refused_feed_leaves_the_names(self):
        given = run(("token", "{"), ("token", "b:"), ("token", "["), ("feed", "[[[[[]]]]]"), ("token", "]"),
                    ("token", "a:"), ("token", "c:"), ("feed", "{a: 1, b: 2}"), ("token", "}"))
        self.assertEqual(given[3:], [NOT_NOW, NOTHING, NOT_NOW, NOTHING, [0], NOTHING])


if __name__ == "__main__":
    unittest.main()
