"""Promise 8: room, and which calls change what it answers."""

import unittest

from helper import FORTY_ENTRIES, NOT_NOW, WRONG, last, run, tokens_as_calls


def rooms(question, tokens):
    """What room answers ahead of the first token and behind each."""
    calls = [("question", question), ("room",)]
    for call in tokens_as_calls(tokens):
        calls.extend([call, ("room",)])
    given = run(*calls)
    assert [-8] not in given and [-1] not in given
    return given[1::2]


def halts(question, tokens):
    return [room[4] for room in rooms(question, tokens)]


class OpenAndBegun(unittest.TestCase):
    def test_at_the_beginning(self):
        self.assertEqual(last(("room",)), [0, 0, 0, 0, 0])

    def test_a_leaf(self):
        self.assertEqual(rooms(".", ["5"]), [[0, 0, 0, 0, 0], [0, 0, 1, 1, 0]])

    def test_behind_every_token(self):
        tokens = ["[", "{", "a:", "1", "b:", "[", "]", "}", "[", "]", "7", "]"]
        self.assertEqual(rooms(".", tokens), [
            [0, 0, 0, 0, 0], [1, 1, 1, 0, 0], [2, 2, 2, 0, 0], [2, 2, 2, 0, 0], [2, 2, 3, 0, 0], [2, 2, 3, 0, 0],
            [3, 3, 4, 0, 0], [2, 3, 4, 0, 0], [1, 3, 4, 0, 0], [2, 3, 5, 0, 0], [1, 3, 5, 0, 0], [1, 3, 6, 0, 0],
            [0, 3, 6, 1, 0]])

    def test_the_most_that_were_open_stays(self):
        self.assertEqual(last(("feed", "[[[[[[]]]]], {a: 1}]"), ("room",)), [0, 6, 8, 1, 0])
        self.assertEqual(last(("feed", "[{a: [1]}, [], []]"), ("room",)), [0, 3, 6, 1, 0])
        self.assertEqual(last(("feed", "[]"), ("room",)), [0, 1, 1, 1, 0])

    def test_feeds_into_what_is_open(self):
        given = run(("token", "["), ("feed", "[1, [2]]"), ("room",), ("feed", "{}"), ("room",), ("token", "]"), ("room",))
        self.assertEqual(given[2::2], [[1, 3, 5, 0, 0], [1, 3, 6, 0, 0], [0, 3, 6, 1, 0]])

    def test_forty_entries(self):
        self.assertEqual(last(("feed", FORTY_ENTRIES), ("room",)), [0, 2, 40, 1, 0])

    def test_refused_calls_change_nothing(self):
        given = run(("token", "["), ("token", "1"), ("room",), ("token", "x"), ("token", "}"), ("feed", "[1"),
                    ("feed", "[[[[[[]]]]]]"), ("question", ""), ("finish",), ("tokens", "[1"), ("answers", "[1"),
                    ("room",))
        self.assertEqual(given[2], [1, 1, 2, 0, 0])
        self.assertEqual(given[3:], [WRONG, NOT_NOW, WRONG, NOT_NOW, WRONG, NOT_NOW, WRONG, WRONG, [1, 1, 2, 0, 0]])

    def test_tokens_answers_and_room_change_nothing(self):
        others = [("tokens", "[[[[[[]]]]]]"), ("answers", "[[[[[[]]]]]]"), ("answers", "5"), ("room",)]
        for question in ("..", ".a", "first(0, .)", "first(2, ..)", "sum(..)"):
            calls = [("question", question)]
            for text in ("[", "[", "1", "]", "{", "a:", "2", "}", "]"):
                before = last(*calls, ("room",))
                for other in others:
                    self.assertEqual(last(*calls, other, ("room",)), before, (question, text, other))
                self.assertEqual(last(*calls, *others, ("room",)), before, (question, text))
                calls.append(("token", text))

    def test_again_begins_it_all(self):
        given = run(("feed", "[[[1]], 2]"), ("room",), ("again",), ("room",), ("token", "{"), ("room",), ("again",),
                    ("room",), ("feed", "7"), ("room",))
        self.assertEqual(given[1::2], [[0, 3, 5, 1, 0], [0, 0, 0, 0, 0], [1, 1, 1, 0, 0], [0, 0, 0, 0, 0],
                                       [0, 0, 1, 1, 0]])


class Halted(unittest.TestCase):
    def test_not_behind_a_whole_tree_alone(self):
        self.assertEqual(halts(".", ["[", "]"]), [0, 0, 0])
        self.assertEqual(halts("count(..)", ["1"]), [0, 0])

    def test_behind_a_fault(self):
        self.assertEqual(halts("(.[] | .a)", ["[", "{", "}", "1", "]"]), [0, 0, 0, 0, 1, 1])
        self.assertEqual(halts(".a", ["5"]), [0, 1])
        self.assertEqual(halts(".[0]", ["{", "}"]), [0, 1, 1])
        self.assertEqual(halts(".[]", ["null"]), [0, 1])

    def test_behind_a_dropped_fault(self):
        self.assertEqual(halts("try((.[] | .a))", ["[", "{", "}", "1", "]"]), [0, 0, 0, 0, 1, 1])
        self.assertEqual(halts("count(try(.a))", ["[", "]"]), [0, 1, 1])

    def test_behind_a_fault_under_count_sum_and_first(self):
        for question in ("count((.[] | .a))", "sum((.[] | .a))", "first(1, (.[] | .a))", "sum(try((.[] | .a)))"):
            self.assertEqual(halts(question, ["[", "{", "}", "1", "]"]), [0, 0, 0, 0, 1, 1], question)

    def test_not_behind_the_faults_that_sum_has_at_the_end(self):
        self.assertEqual(halts("sum(..)", ["[", "null", "1", "]"]), [0, 0, 0, 0, 0])
        self.assertEqual(halts("sum(.[])", ["[", "1000000000", "1000000000", "]"]), [0, 0, 0, 0, 0])
        self.assertEqual(halts("sum((.[] | .a))", ["[", "{", "a:", "null", "}", "7", "]"]), [0, 0, 0, 0, 0, 0, 1, 1])

    def test_behind_the_last_result_of_first(self):
        self.assertEqual(halts("first(0, .)", ["[", "]"]), [1, 1, 1])
        self.assertEqual(halts("first(1, .)", ["[", "]"]), [0, 1, 1])
        self.assertEqual(halts("first(2, .[])", ["[", "1", "2", "3", "]"]), [0, 0, 0, 1, 1, 1])
        self.assertEqual(halts("first(4, .[])", ["[", "1", "2", "3", "]"]), [0, 0, 0, 0, 0, 0])
        for question in ("count(first(2, .[]))", "sum(first(2, .[]))"):
            self.assertEqual(halts(question, ["[", "1", "2", "3", "]"]), [0, 0, 0, 1, 1, 1], question)
        self.assertEqual(halts("sum(first(2, .[]))", ["[", "1", "null", "3", "]"]), [0, 0, 0, 1, 1, 1])
        self.assertEqual(halts("count(first(0, .a))", ["5"]), [1, 1])

    def test_not_behind_the_last_that_can_be_found(self):
        self.assertEqual(halts(".a", ["{", "a:", "1", "b:", "2", "}"]), [0] * 7)
        self.assertEqual(halts(".[0]", ["[", "1", "2", "]"]), [0] * 5)

    def test_a_new_question_ends_it(self):
        given = run(("question", "first(0, .)"), ("room",), ("question", "x"), ("room",), ("question", "."), ("room",))
        self.assertEqual(given[1::2], [[0, 0, 0, 0, 1], [0, 0, 0, 0, 1], [0, 0, 0, 0, 0]])

    def test_again_ends_it_but_with_first_of_none(self):
        for question, begins in (("first(0, ..)", 1), ("count(first(0, .))", 1), ("first(1, ..)", 0), (".a", 0),
                                 ("try(.a)", 0), ("sum(.a)", 0)):
            given = run(("question", question), ("room",), ("token", "["), ("room",), ("again",), ("room",),
                        ("token", "["), ("room",))
            self.assertEqual([room[4] for room in given[1::2]], [begins, 1, begins, 1], question)

    def test_tokens_still_come_and_count(self):
        self.assertEqual(rooms("first(0, .)", ["[", "{", "a:", "1", "}", "]"])[-1], [0, 2, 3, 1, 1])


if __name__ == "__main__":
    unittest.main()
