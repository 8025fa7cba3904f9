"""Promise 6: tokens."""

import re
import unittest

from helper import (EIGHT_FIELDS, FORTY_ENTRIES, NO_TREES, NOTHING, TREES, WRONG, fault, fed, last, result, run, texts,
                    tokens_as_calls)

# The document's tokens in any text of a tree; what stands between them is "," and blanks.
A_TOKEN = re.compile(r'"(?:\\.|[^"\\])*"|[a-z][a-z0-9]*:|[\[\]{}]|-?[0-9]+|null|true|false')


class TheTokens(unittest.TestCase):
    def test_the_example(self):
        self.assertEqual(last(("tokens", "{a: [null]}")), texts("{", "a:", "[", "null", "]", "}"))

    def test_number_by_number(self):
        self.assertEqual(last(("tokens", "{a: [null]}")),
                         [6, 1, 123, 2, 97, 58, 1, 91, 4, 110, 117, 108, 108, 1, 93, 1, 125])

    def test_leaves(self):
        for leaf in ("null", "true", "false", "0", "-7", "1000000000", "-1000000000", "\"\"", "\"a b\"", "\"]\"",
                     "\"\\\"\\\\\"", "\"a: [1, 2]\"", "\"" + "\\\\" * 20 + "\""):
            self.assertEqual(last(("tokens", leaf)), texts(leaf))
            self.assertEqual(last(("tokens", "[%s]" % leaf)), texts("[", leaf, "]"))
            self.assertEqual(last(("tokens", "{k: %s}" % leaf)), texts("{", "k:", leaf, "}"))

    def test_lists_and_records(self):
        for tree, tokens in (
                ("[]", "[ ]"), ("{}", "{ }"), ("[1]", "[ 1 ]"), ("[1, 2]", "[ 1 2 ]"), ("[[], {}]", "[ [ ] { } ]"),
                ("[[1], [[2]], 3]", "[ [ 1 ] [ [ 2 ] ] 3 ]"), ("{a: 1, b: 2}", "{ a: 1 b: 2 }"),
                ("{a: {}, b1: [], c: {d: null}}", "{ a: { } b1: [ ] c: { d: null } }"),
                ("[{a: 1}, {a: 1}]", "[ { a: 1 } { a: 1 } ]"), ("{null: null, true: false}", "{ null: null true: false }")):
            self.assertEqual(last(("tokens", tree)), texts(*tokens.split(" ")), tree)

    def test_at_the_bounds(self):
        self.assertEqual(last(("tokens", "[[[[[[]]]]]]")), texts(*"[[[[[[]]]]]]"))
        self.assertEqual(last(("tokens", "[" + ", ".join(["0"] * 10) + "]")), texts(*"[0000000000]"))
        fields = [token for name in "abcdefgh" for token in (name + ":", "0")]
        self.assertEqual(last(("tokens", EIGHT_FIELDS)), texts("{", *fields, "}"))
        self.assertEqual(last(("tokens", FORTY_ENTRIES)), texts(*FORTY_ENTRIES.replace(", ", "")))

    def test_the_longest_texts(self):
        leaf = "\"" + "\\\\" * 20 + "\""
        tree = FORTY_ENTRIES.replace("1", leaf)
        given = last(("tokens", tree))
        self.assertEqual(given, texts(*[leaf if sign == "1" else sign for sign in FORTY_ENTRIES.replace(", ", "")]))
        self.assertLess(len(given), 5000)

    def test_they_make_up_the_text(self):
        for tree in TREES:
            self.assertEqual(last(("tokens", tree)), texts(*A_TOKEN.findall(tree)), tree)

    def test_each_can_come_behind_the_others(self):
        for tree in TREES:
            given = run(("question", ".."), *tokens_as_calls(A_TOKEN.findall(tree)), ("finish",))
            self.assertEqual(given[-1], run(("question", ".."), ("feed", tree), ("finish",))[-1], tree)

    def test_whatever_the_question_is(self):
        for question in (".a", "try(.a)", "first(0, .)", "count(..)", "sum(.[])"):
            self.assertEqual(last(("question", question), ("tokens", "[1]")), texts("[", "1", "]"))


class TextsOfNoTrees(unittest.TestCase):
    def test_they_are_refused(self):
        for text in NO_TREES:
            self.assertEqual(run(("tokens", text), ("room",)), [WRONG, [0, 0, 0, 0, 0]], text)
            self.assertEqual(run(("token", "["), ("tokens", text), ("room",))[1:], [WRONG, [1, 1, 1, 0, 0]], text)

    def test_single_tokens_but_leaves(self):
        for text in ("[", "]", "{", "}", "a:"):
            self.assertEqual(last(("token", "["), ("tokens", text)), WRONG)

    def test_each_beginning_of_a_tree_but_itself(self):
        text = "{a: [1, \"b\\\"\", null], b: {}, c: -12}"
        self.assertEqual(last(("tokens", text))[0], 13)
        for end in range(len(text)):
            self.assertEqual(last(("tokens", text[:end])), WRONG, text[:end])

    def test_bytes_that_are_no_signs(self):
        for byte in (0, 10, 31, 127, 128, 255):
            for text in ([byte], [49, byte], [91, byte, 93], [34, byte, 34], [91, 49, 44, byte, 49, 93]):
                self.assertEqual(last(("tokens", text)), WRONG)


class NothingChanges(unittest.TestCase):
    def test_it_needs_no_place_for_the_tree(self):
        for come in (["5"], ["[", "]"], ["{"], ["{", "a:"], ["["] * 6, ["["] + ["0"] * 10):
            calls = tokens_as_calls(come)
            before = last(*calls, ("room",))
            given = run(*calls, ("tokens", "[[[[[[]]]]]]"), ("room",))
            self.assertEqual(given[-2:], [texts(*"[[[[[[]]]]]]"), before])

    def test_in_the_midst_of_a_reading(self):
        for other in (("tokens", "[1, {a: 2}]"), ("tokens", "[1, ")):
            given = run(("question", "(.[] | .n)"), other, ("token", "["), other, ("feed", "{n: 5}"), other,
                        ("token", "{"), other, ("token", "n:"), other, ("token", "6"), other, ("token", "}"), other,
                        ("token", "7"), other, ("token", "]"), other, ("finish",), other, ("room",))
            self.assertEqual(given[::2], [[2], NOTHING, fed(result("/0/n", "5")), NOTHING, NOTHING, result("/1/n", "6"),
                                          NOTHING, fault(1, "/2"), NOTHING, fault(1, "/2"), [0, 2, 6, 1, 1]])


if __name__ == "__main__":
    unittest.main()
