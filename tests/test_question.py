"""Promise 1: question."""

import unittest

from helper import NOT_NOW, NOTHING, WRONG, fed, found, last, result, run

RIGHT = {
    ".": 0,
    "..": 0,
    ".n": 1,
    ".a1b2": 1,
    ".abcdefghij": 1,
    ".null": 1,
    ".[0]": 1,
    ".[100]": 1,
    ".[0:100]": 1,
    ".[100:0]": 1,
    ".[:]": 1,
    ".[3:]": 1,
    ".[:3]": 1,
    ".[]": 1,
    "(. | .)": 0,
    "(.[] | .n)": 2,
    "((.a | .b) | .c)": 3,
    "(.a | (.b | .c))": 3,
    "((.a | .[1]) | (.[:] | .[]))": 4,
    "(.. | where((. = 1)))": 0,
    "(.a | where((. = 1)))": 1,
    "((.[] | ..) | (. | where((. = 1))))": 1,
    "((. | .a) | (. | ((.. | .) | (where((. = 1)) | .))))": 1,
    "where((. = null))": 0,
    "where((. = true))": 0,
    "where((. < false))": 0,
    "where((-1000000000 < .))": 0,
    "where((. < 1000000000))": 0,
    "where((. = \"12345678901234567890\"))": 0,
    "where((\"a\\\\b\\\"\" < .))": 0,
    "where((\")\" < .))": 0,
    "where(not((. = 0)))": 0,
    "where(((. = 0) and (. = 1)))": 0,
    "where(((. = 0) or (. = 1)))": 0,
    "where((not((. = 0)) or ((1 < .) and (. < 3))))": 0,
    "where(not(not(not((. = 0)))))": 0,
    "try(.a)": 1,
    "try((.a | .b))": 2,
    "first(0, .)": 0,
    "first(60, .a)": 1,
    "count(.)": 0,
    "count(..)": 0,
    "count(try(.a))": 1,
    "count(first(1, .a))": 1,
    "sum((.a | .b))": 2,
    "sum(try(.a))": 1,
    "sum(first(3, .[]))": 1,
}

WRONG_TEXTS = [
    "", " ", "n", ". ", " .", "...", ". .", "..a", "..[]", ".A", ".1", ".a_b", ".aB", ".abcdefghijk", ".a.b", ".\xe9",
    ".[", ".[]]", ".[ ]", ".[101]", ".[-1]", ".[-0]", ".[00]", ".[01]", ".[1", ".[a]", ".[1 ]", ".[10000000000000]",
    ".[0:101]", ".[101:]", ".[:101]", ".[:-1]", ".[1:02]", ".[00:1]", ".[1::2]", ".[1 :2]", ".[1: 2]", ".[:", ".[1:",
    "(.)", "()", "(. |.)", "(.| .)", "(.|.)", "(. | )", "( | .)", "(. | .", ". | .", "(. | . | .)", "(. | .))",
    "(.  | .)", "(. | .)x", "((. | .)",
    "where", "where()", "where(.)", "where(. = 1)", "where((. = 1)", "where((. = 1)))", "where ((. = 1))",
    "where((. > 1))", "where((.= 1))", "where((. =1))", "where((. = 1 ))", "where(( . = 1))", "where((. == 1))",
    "where((1 = .))", "where((1 < 2))", "where((. < .))", "where((. = .))", "where((. = []))", "where((. = {}))",
    "where((. = [1]))", "where((. = nul))", "where((. = nulls))", "where((. = True))", "where((. = -0))",
    "where((. = 01))", "where((. = +1))", "where((. = 1000000001))", "where((-1000000001 < .))", "where((. = a))",
    "where((. = \"123456789012345678901\"))", "where((. = \"a))", "where((. = \"\\a\"))", "where((. = \"a\"\"))",
    "where((. = \"\x1f\"))", "where((. = \"\x7f\"))",
    "where(not (. = 1))", "where(not(. = 1))", "where(not())", "where((not((. = 1))))", "where(((. = 1)))",
    "where(((. = 1) and))", "where(((. = 1) and (. = 2))", "where((. = 1) and (. = 2))", "where(((. = 1)and (. = 2)))",
    "where(((. = 1) xor (. = 2)))", "where(((. = 1) and (. = 2) and (. = 3)))", "where(((. = 1)  or (. = 2)))",
    "where(((. = 1) or ))",
    "try", "try()", "try(.", "try(.))", "try(try(.))", "try(first(1, .))", "(try(.) | .)", "(. | try(.))",
    "first(.)", "first(1, .", "first(1,.)", "first(1 , .)", "first(61, .)", "first(-1, .)", "first(-0, .)",
    "first(01, .)", "first(, .)", "first(1, )", "first(1, try(.))", "first(1, first(1, .))", "(first(1, .) | .)",
    "count()", "count(.", "count(.))", "count(count(.))", "count(sum(.))", "try(count(.))", "first(1, count(.))",
    "(count(.) | .)", "Count(.)", "sum()", "sum(.", "sum(sum(.))", "sum(count(.))", "(. | sum(.))", "sum (.)",
]

# Which links stand behind one another where they may not.
WRONG_ORDERS = [
    "(.. | .a)", "(.. | .[0])", "(.. | .[0:1])", "(.. | .[])", "(.. | ..)",
    "(where((. = 1)) | .a)", "(where((. = 1)) | .[0])", "(where((. = 1)) | .[:1])", "(where((. = 1)) | .[])",
    "(where((. = 1)) | ..)", "(where((. = 1)) | where((. = 1)))",
    "(.. | (. | .a))", "((.. | .) | ..)", "((. | where((. = 1))) | (. | .a))", "((.. | where((. = 1))) | where((. = 1)))",
    "try((.. | .a))", "first(1, (.. | ..))", "count((where((. = 1)) | .a))", "sum((where((. = 1)) | ..))",
]


def chain_of(links):
    """A chain of so many links, and so of 2 * links - 1 nodes, nested at its end."""
    return "(. | " * (links - 1) + "." + ")" * (links - 1)


def left_chain_of(links):
    return "(" * (links - 1) + "." + " | .)" * (links - 1)


def nots_of(how_many):
    """where, so many nots, and a comparison: 4 nodes and the nots."""
    return "where(" + "not(" * how_many + "(. = 1)" + ")" * how_many + ")"


class TextsOfQuestions(unittest.TestCase):
    def test_how_many_steps(self):
        for text, steps in RIGHT.items():
            self.assertEqual(last(("question", text)), [steps], text)

    def test_texts_that_are_no_questions(self):
        for text in WRONG_TEXTS + WRONG_ORDERS:
            self.assertEqual(last(("question", text)), WRONG, text)

    def test_bytes_that_are_no_signs(self):
        for byte in (0, 9, 10, 31, 127, 200, 255):
            self.assertEqual(last(("question", [46, byte])), WRONG)
            self.assertEqual(last(("question", [byte, 46])), WRONG)
            self.assertEqual(last(("question", [byte])), WRONG)

    def test_every_byte_in_a_name(self):
        letters = list(b"abcdefghijklmnopqrstuvwxyz")
        for byte in range(256):
            awaited = [1] if byte in letters else [0] if byte == 46 else WRONG
            self.assertEqual(last(("question", [46, byte])), awaited, byte)
            fits = byte in letters or byte in b"0123456789"
            self.assertEqual(last(("question", [46, 97, byte])), [1] if fits else WRONG, byte)

    def test_each_beginning_of_a_question_but_itself(self):
        text = "sum(first(12, ((.[1:2] | .ab) | (.. | where(((. = \"x\") or not((-5 < .))))))))"
        self.assertEqual(last(("question", text)), [2])
        for end in range(len(text)):
            self.assertEqual(last(("question", text[:end])), WRONG, text[:end])
        self.assertEqual(last(("question", text + ")")), WRONG)


class NodesOfQuestions(unittest.TestCase):
    def test_links_and_pairs(self):
        self.assertEqual(last(("question", chain_of(15))), [0])
        self.assertEqual(last(("question", chain_of(16))), WRONG)
        self.assertEqual(last(("question", left_chain_of(15))), [0])
        self.assertEqual(last(("question", left_chain_of(16))), WRONG)

    def test_try_first_count_and_sum_are_one_each(self):
        chain = chain_of(15)
        for text in ("try(%s)", "first(1, %s)", "count(%s)", "sum(%s)"):
            self.assertEqual(last(("question", text % chain)), [0], text)
        for text in ("count(try(%s))", "count(first(1, %s))", "sum(try(%s))", "sum(first(1, %s))"):
            self.assertEqual(last(("question", text % chain)), WRONG, text)

    def test_every_step_is_one(self):
        for step in (".a", ".[100]", ".[1:2]", ".[]"):
            self.assertEqual(last(("question", chain_of(15).replace(". |", step + " |"))), [14])
            self.assertEqual(last(("question", chain_of(16).replace(". |", step + " |"))), WRONG)

    def test_where_and_its_conditions(self):
        self.assertEqual(last(("question", nots_of(26))), [0])
        self.assertEqual(last(("question", nots_of(27))), WRONG)

    def test_every_comparison_is_three(self):
        for part in ("(. = 1)", "(. < 1)", "(1 < .)", "(. = \"a b\")"):
            self.assertEqual(last(("question", nots_of(26).replace("(. = 1)", part))), [0])
            self.assertEqual(last(("question", nots_of(27).replace("(. = 1)", part))), WRONG)

    def test_and_and_or_are_one_each(self):
        for word in ("and", "or"):
            part = "(. = 1)"
            for joined in range(6):
                part = "(%s %s (. = 1))" % (part, word)
            # 6 pairs and 7 comparisons: 27 nodes.
            self.assertEqual(last(("question", "try(where(%s))" % part)), [0])
            self.assertEqual(last(("question", "try(where(not(%s)))" % part)), [0])
            self.assertEqual(last(("question", "count(try(where(not(%s))))" % part)), WRONG)
            self.assertEqual(last(("question", "where(not(not(not(%s))))" % part)), WRONG)


class DeepTexts(unittest.TestCase):
    def test_as_deep_as_the_text_has_bytes(self):
        for text in ("(" * 3000, chain_of(500), left_chain_of(500), nots_of(590), "where(" + "not(" * 748,
                     "where(" * 500, "where(" + "(" * 2994, "try(" * 750, "count(" * 500, "." * 3000,
                     ".[" + "0" * 2997 + "]", ".[" + "9" * 2997 + "]", "." + "a" * 2999,
                     "where((. = \"" + "a" * 2985, "where((. = -" + "0" * 2985):
            self.assertLessEqual(len(text), 3000)
            self.assertEqual(last(("question", text)), WRONG)


class WhatAQuestionChanges(unittest.TestCase):
    def test_at_the_beginning_the_question_is_the_whole_tree(self):
        self.assertEqual(run(("feed", "[1, 2]"), ("finish",)), [fed(result("/", "[")), found(1)])

    def test_no_token_has_come_any_more(self):
        given = run(("feed", "[[1], 2]"), ("question", "..."), ("room",), ("question", ".."), ("room",), ("finish",),
                    ("token", "7"), ("room",), ("finish",))
        self.assertEqual(given, [fed(result("/", "[")), WRONG, [0, 2, 4, 1, 0], [0], [0, 0, 0, 0, 0], NOT_NOW,
                                 result("/", "7"), [0, 0, 1, 1, 0], found(1)])

    def test_a_refused_question_leaves_question_and_tokens(self):
        given = run(("question", ".[]"), ("token", "["), ("question", ".[101]"), ("room",), ("token", "5"),
                    ("token", "]"), ("finish",))
        self.assertEqual(given, [[1], NOTHING, WRONG, [1, 1, 1, 0, 0], result("/0", "5"), NOTHING, found(1)])

    def test_a_fault_and_halting_are_forgotten(self):
        given = run(("question", ".a"), ("token", "5"), ("room",), ("question", ".a"), ("room",), ("feed", "{a: 6}"),
                    ("finish",))
        self.assertEqual(given[2], [0, 0, 1, 1, 1])
        self.assertEqual(given[4:], [[0, 0, 0, 0, 0], fed(result("/a", "6")), found(1)])


if __name__ == "__main__":
    unittest.main()
