"""Promise 2: token."""

import unittest

from helper import NOT_NOW, NOTHING, WRONG, fault, found, last, result, run, tokens_as_calls

RIGHT_LEAVES = [
    "null", "true", "false", "0", "7", "-1", "10", "1000000000", "-1000000000", "\"\"", "\" \"", "\"~\"", "\"null\"",
    "\"12345678901234567890\"", "\"" + "\\\\" * 20 + "\"", "\"" + "\\\"" * 20 + "\"", "\"a:\"", "\"[\"", "\"]\"", "\"}\"",
]

WRONG_TEXTS = [
    "", " ", "  null", "null ", " null", "nul", "nulls", "Null", "True", "truee", "falsE", "none",
    "-0", "00", "01", "-01", "-", "--1", "+1", "1.0", "1e3", " 1", "1 ", "1,", "0x1", "1000000001", "-1000000001",
    "10000000000", "9" * 3000, "0" * 3000, "-" + "9" * 2999,
    "\"", "\"a", "a\"", "\"\"\"", "\"a\"b\"", "\"\\\"", "\"\\a\"", "\"\\n\"", "\"a\"x", "\"123456789012345678901\"",
    "\"" + "\\\\" * 21 + "\"", "\"\x1f\"", "\"\x7f\"", "\"\n\"", "\"\t\"", "\"\xe9\"", "\"\x00\"", "\"\xff\"", "'a'",
    "[]", "{}", "[1]", "[[", "((", "(", ",", ", ", ":", ".", "/",
    "a", "a :", ":a", "a: ", "a:1", "a::", " a:", "A:", "aB:", "a_b:", "1:", "1a:", "-a:", "abcdefghijk:", "\xe9:", "a\xe9:",
]


def openers(depth):
    return [("token", "[")] * depth


def room_after(*calls):
    return last(*calls, ("room",))


class TextsOfTokens(unittest.TestCase):
    def test_leaves_come_and_are_their_own_heads(self):
        for text in RIGHT_LEAVES:
            self.assertEqual(run(("token", text), ("finish",)), [result("/", text), found(1)], text)

    def test_every_sign_in_a_text(self):
        for byte in range(256):
            inner = [92, byte] if byte in (34, 92) else [byte]
            text = [34] + inner + [34]
            awaited = result("/", text) if 32 <= byte <= 126 else WRONG
            self.assertEqual(last(("token", text)), awaited, byte)

    def test_texts_that_are_no_tokens(self):
        for text in WRONG_TEXTS:
            self.assertEqual(last(("token", text)), WRONG, text)
            self.assertEqual(last(("token", "["), ("token", text)), WRONG, text)
            self.assertEqual(last(("token", "{"), ("token", text)), WRONG, text)

    def test_names(self):
        for text in ("a:", "z:", "null:", "true:", "a1:", "z9z9:", "abcdefghij:"):
            self.assertEqual(run(("token", "{"), ("token", text), ("token", "}"), ("token", "1"))[1:],
                             [NOTHING, NOT_NOW, NOTHING], text)

    def test_every_byte_in_a_name(self):
        letters = list(b"abcdefghijklmnopqrstuvwxyz")
        for byte in range(256):
            self.assertEqual(last(("token", "{"), ("token", [byte, 58])), NOTHING if byte in letters else WRONG, byte)
            fits = byte in letters or byte in b"0123456789"
            self.assertEqual(last(("token", "{"), ("token", [97, byte, 58])), NOTHING if fits else WRONG, byte)

    def test_no_token_is_looked_at_before_whether_one_can_come(self):
        self.assertEqual(run(("token", "1"), ("token", "x"), ("token", "1"))[1:], [WRONG, NOT_NOW])


class WhichCanCome(unittest.TestCase):
    def test_first_tokens(self):
        for text in ("]", "}", "a:"):
            self.assertEqual(run(("token", text), ("room",)), [NOT_NOW, [0, 0, 0, 0, 0]])
        self.assertEqual(run(("token", "["), ("room",)), [result("/", "["), [1, 1, 1, 0, 0]])
        self.assertEqual(run(("token", "{"), ("room",)), [result("/", "{"), [1, 1, 1, 0, 0]])

    def test_nothing_behind_a_whole_tree(self):
        for whole in (["1"], ["[", "]"], ["{", "}"], ["{", "a:", "1", "}"]):
            for text in ("1", "null", "[", "]", "{", "}", "a:"):
                given = run(*tokens_as_calls(whole), ("room",), ("token", text), ("room",))
                self.assertEqual(given[-2], NOT_NOW)
                self.assertEqual(given[-3], given[-1])
                self.assertEqual(given[-1][3], 1)

    def test_in_a_list(self):
        for text in ("}", "a:"):
            self.assertEqual(last(("token", "["), ("token", text)), NOT_NOW)
            self.assertEqual(last(("token", "["), ("token", "1"), ("token", text)), NOT_NOW)
        for text in ("1", "[", "{", "]"):
            self.assertEqual(last(("token", "["), ("token", "1"), ("token", text)), NOTHING)

    def test_in_a_record(self):
        for text in ("]", "1", "[", "{", "\"a\""):
            self.assertEqual(last(("token", "{"), ("token", text)), NOT_NOW)
            self.assertEqual(last(("token", "{"), ("token", "a:"), ("token", "1"), ("token", text)), NOT_NOW)
        for text in ("}", "]", "b:"):
            self.assertEqual(last(("token", "{"), ("token", "a:"), ("token", text)), NOT_NOW)
        for text in ("b:", "}"):
            self.assertEqual(last(("token", "{"), ("token", "a:"), ("token", "1"), ("token", text)), NOTHING)

    def test_an_end_ends_the_innermost_alone(self):
        given = run(*tokens_as_calls(["[", "{", "]", "a:", "[", "}", "]", "]", "}", "}", "]"]))
        self.assertEqual(given[1:], [NOTHING, NOT_NOW, NOTHING, NOTHING, NOT_NOW, NOTHING, NOT_NOW, NOTHING, NOT_NOW,
                                     NOTHING])

    def test_names_rise(self):
        for one, other, rises in (("a", "b", True), ("a", "a", False), ("b", "a", False), ("a", "aa", True),
                                  ("aa", "a", False), ("a1", "aa", True), ("aa", "a1", False), ("z", "za", True),
                                  ("a9", "b", True), ("abc", "abd", True), ("abd", "abc", False)):
            given = run(("token", "{"), ("token", one + ":"), ("token", "1"), ("token", other + ":"))
            self.assertEqual(given[-1], NOTHING if rises else NOT_NOW, (one, other))

    def test_names_rise_in_each_record_by_itself(self):
        given = run(*tokens_as_calls(["{", "m:", "{", "a:", "1", "}", "b:", "z:", "2", "}"]))
        self.assertEqual([answer == NOT_NOW for answer in given],
                         [False, False, False, False, False, False, True, False, False, False])

    def test_at_most_ten_items(self):
        ten = ["["] + ["1", "[", "]", "2", "{", "}", "3", "4", "5", "6", "7", "8"]
        for text in ("9", "[", "{"):
            self.assertEqual(last(*tokens_as_calls(ten), ("token", text)), NOT_NOW)
        self.assertEqual(last(*tokens_as_calls(ten[:-1]), ("token", "9")), NOTHING)
        self.assertEqual(last(*tokens_as_calls(ten), ("token", "]")), NOTHING)

    def test_at_most_eight_fields(self):
        eight = ["{"]
        for name in "abcdefgh":
            eight.extend([name + ":", "1"])
        self.assertEqual(last(*tokens_as_calls(eight), ("token", "i:")), NOT_NOW)
        self.assertEqual(last(*tokens_as_calls(eight), ("token", "}")), NOTHING)
        self.assertEqual(last(*tokens_as_calls(eight[:-2]), ("token", "i:")), NOTHING)


class DepthAndEntries(unittest.TestCase):
    def test_six_lists_but_not_seven(self):
        self.assertEqual(run(*openers(6), ("room",))[-1], [6, 6, 6, 0, 0])
        for text in ("[", "{", "1", "null"):
            self.assertEqual(last(*openers(6), ("token", text)), NOT_NOW, text)
        self.assertEqual(last(*openers(6), ("token", "]")), NOTHING)

    def test_a_leaf_is_one_deep_itself(self):
        self.assertEqual(last(*openers(5), ("token", "1")), NOTHING)
        self.assertEqual(last(*openers(5), ("token", "{")), NOTHING)

    def test_no_name_where_its_tree_would_be_too_deep(self):
        given = run(*openers(5), ("token", "{"), ("token", "a:"), ("room",), ("token", "}"), ("token", "2"))
        self.assertEqual(given[5:], [NOTHING, NOT_NOW, [6, 6, 6, 0, 0], NOTHING, NOTHING])
        given = run(*openers(4), ("token", "{"), ("token", "a:"), ("token", "1"), ("token", "}"))
        self.assertEqual(given[4:], [NOTHING] * 4)

    def test_forty_entries_in_lists(self):
        # The outer list, 3 lists of 10 items, and 6 leaves make 1 + 33 + 6 = 40 entries.
        calls = [("token", "[")]
        for inner in range(3):
            calls.extend(tokens_as_calls(["["] + ["1"] * 10 + ["]"]))
        calls.extend(tokens_as_calls(["1"] * 6))
        self.assertEqual(room_after(*calls[:-1]), [1, 2, 39, 0, 0])
        self.assertEqual(room_after(*calls), [1, 2, 40, 0, 0])
        for text in ("1", "[", "{"):
            self.assertEqual(last(*calls[:-1], ("token", text)), NOTHING)
            self.assertEqual(last(*calls, ("token", text)), NOT_NOW)
        self.assertEqual(run(*calls, ("token", "]"), ("room",))[-2:], [NOTHING, [0, 2, 40, 1, 0]])

    def test_no_name_where_its_tree_would_be_one_too_many(self):
        calls = [("token", "[")]
        for inner in range(3):
            calls.extend(tokens_as_calls(["["] + ["1"] * 10 + ["]"]))
        calls.extend(tokens_as_calls(["1", "1", "{", "a:", "1"]))
        self.assertEqual(room_after(*calls), [2, 2, 38, 0, 0])
        self.assertEqual(run(*calls, *tokens_as_calls(["b:", "1", "c:", "[", "d:", "}"]))[-6:],
                         [NOTHING, NOTHING, NOTHING, NOTHING, NOT_NOW, NOT_NOW])
        self.assertEqual(run(*calls, *tokens_as_calls(["b:", "1", "c:", "1", "d:", "}"]))[-6:],
                         [NOTHING, NOTHING, NOTHING, NOTHING, NOT_NOW, NOTHING])


class WhatIsTold(unittest.TestCase):
    def test_results_at_their_first_tokens(self):
        given = run(("question", ".."), *tokens_as_calls(["[", "1", "{", "ab:", "\"x\\\"y\"", "c:", "[", "]", "}", "]"]))
        self.assertEqual(given[1:], [
            result("/", "["), result("/0", "1"), result("/1", "{"), NOTHING, result("/1/ab", "\"x\\\"y\""), NOTHING,
            result("/1/c", "["), NOTHING, NOTHING, NOTHING])

    def test_the_faults_and_their_places(self):
        for question, tokens, awaited in (
                (".a", ["1"], fault(1, "/")),
                (".a", ["["], fault(1, "/")),
                (".[0]", ["null"], fault(2, "/")),
                (".[0]", ["{"], fault(2, "/")),
                (".[1:]", ["\"a\""], fault(2, "/")),
                (".[1:]", ["{"], fault(2, "/")),
                (".[]", ["true"], fault(3, "/")),
                ("(.a | .b)", ["{", "a:", "["], fault(1, "/a")),
                ("(.[1] | .[0])", ["[", "0", "{"], fault(2, "/1")),
                ("(.[] | (.c | .[]))", ["[", "{", "c:", "7"], fault(3, "/0/c"))):
            self.assertEqual(last(("question", question), *tokens_as_calls(tokens)), awaited, question)

    def test_nothing_more_is_told_behind_a_fault(self):
        given = run(("question", "(.[] | .[])"), *tokens_as_calls(["[", "[", "1", "]", "2", "[", "3", "]", "4", "]"]),
                    ("finish",))
        self.assertEqual(given[1:], [NOTHING, NOTHING, result("/0/0", "1"), NOTHING, fault(3, "/1")] + [NOTHING] * 5
                         + [fault(3, "/1")])

    def test_nothing_is_told_of_count_and_sum(self):
        for question in ("count(.[])", "sum(.[])"):
            given = run(("question", question), *tokens_as_calls(["[", "1", "2", "]"]))
            self.assertEqual(given[1:], [NOTHING] * 4)
            self.assertEqual(last(("question", question), ("token", "1")), NOTHING)

    def test_a_tried_fault_is_not_told(self):
        given = run(("question", "try((.[] | .a))"), *tokens_as_calls(["[", "{", "a:", "1", "}", "2", "{", "a:", "3"]))
        self.assertEqual(given[1:], [NOTHING, NOTHING, NOTHING, result("/0/a", "1")] + [NOTHING] * 5)


class RefusedTokens(unittest.TestCase):
    def test_they_leave_everything_as_it_was(self):
        tokens = ["{", "a:", "[", "1", "{", "}", "]", "c:", "5", "}"]
        wrong = ["x", "[]", "]", "}", "1", "[", "{", "a:", "b:", "d:"]
        question = ("question", "((. | ..) | where(not((. = 5))))")
        plain = run(question, *[call for text in tokens for call in [("token", text), ("room",)]], ("finish",))
        before = [question]
        for text, told, room in zip(tokens, plain[1::2], plain[2::2]):
            for other in wrong:
                answer = last(*before, ("token", other))
                if answer in (WRONG, NOT_NOW):
                    before.append(("token", other))
            before.append(("token", text))
            self.assertEqual(run(*before)[-1], told)
            self.assertEqual(last(*before, ("room",)), room)
        self.assertEqual(last(*before, ("finish",)), plain[-1])


if __name__ == "__main__":
    unittest.main()
