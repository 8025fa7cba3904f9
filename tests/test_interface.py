"""The interface: how calls and answers stand in the lists."""

import unittest

from helper import FORTY_ENTRIES, encoded, fed, found, result, run, texts
from treestream.reading import answers


class TheLists(unittest.TestCase):
    def test_the_numbers_of_the_calls(self):
        self.assertEqual(answers([0, 1, 46]), [1, 0])
        self.assertEqual(answers([1, 1, 49]), [5, 1, 1, 47, 1, 49])
        self.assertEqual(answers([2, 1, 49]), [6, 1, 1, 1, 47, 1, 49])
        self.assertEqual(answers([3]), [1, -8])
        self.assertEqual(answers([4]), [1, 0])
        self.assertEqual(answers([5, 1, 49]), [3, 1, 1, 49])
        self.assertEqual(answers([6, 1, 49]), [8, 1, 1, 1, 47, 1, 49, 0, 1])
        self.assertEqual(answers([7]), [5, 0, 0, 0, 0, 0])

    def test_several_calls(self):
        calls = [0, 2, 46, 46, 7, 1, 1, 91, 2, 2, 91, 93, 3, 1, 1, 93, 3, 7, 4, 5, 2, 91, 93, 6, 1, 48, 7]
        self.assertEqual(answers(calls), [
            1, 0,
            5, 0, 0, 0, 0, 0,
            5, 1, 1, 47, 1, 91,
            7, 1, 1, 2, 47, 48, 1, 91,
            1, -8,
            1, 0,
            2, 0, 2,
            5, 0, 2, 2, 1, 0,
            1, 2,
            5, 2, 1, 91, 1, 93,
            8, 1, 1, 1, 47, 1, 48, 0, 1,
            5, 0, 0, 0, 0, 0])

    def test_texts_without_bytes(self):
        self.assertEqual(answers([0, 0, 1, 0, 2, 0, 5, 0, 6, 0, 7]), [1, -1] * 5 + [5, 0, 0, 0, 0, 0])

    def test_texts_of_three_thousand_bytes(self):
        for call in (0, 1, 2, 5, 6):
            for byte in (0, 40, 46, 91, 123, 255):
                self.assertEqual(answers([call, 3000] + [byte] * 3000 + [7]), [1, -1, 5, 0, 0, 0, 0, 0])

    def test_numbers_below_zero(self):
        given = run(("question", "sum(.)"), ("feed", "-7"), ("finish",), ("answers", "-8"))
        self.assertEqual(given[-2:], [[1, -7], [0, 1, -8]])

    def test_a_hundred_calls(self):
        self.assertEqual(answers([7] * 100), [5, 0, 0, 0, 0, 0] * 100)
        self.assertEqual(answers([4] * 100), [1, 0] * 100)

    def test_the_longest_answers(self):
        leaf = "\"" + "\\\\" * 20 + "\""
        tree = FORTY_ENTRIES.replace("1", leaf)
        given = run(*[("question", ".."), ("answers", tree), ("tokens", tree), ("feed", tree), ("again",)] * 20)
        self.assertEqual(given, given[:5] * 20)
        self.assertEqual([given[0], given[4]], [[0], [40]])
        self.assertEqual(given[1], given[3] + found(40))
        self.assertLess(max(len(answer) for answer in given), 5000)

    def test_any_call_first(self):
        for call, answer in ((("question", "."), [0]), (("token", "["), result("/", "[")), (("finish",), [-8]),
                             (("feed", "[]"), fed(result("/", "["))), (("again",), [0]), (("room",), [0, 0, 0, 0, 0]),
                             (("tokens", "[]"), texts("[", "]")), (("answers", "[]"), fed(result("/", "[")) + found(1))):
            self.assertEqual(run(call), [answer])

    def test_whole_numbers_alone(self):
        calls = encoded([("question", "try(.a)"), ("feed", "[1]"), ("finish",), ("room",), ("token", "x"), ("again",),
                         ("tokens", "{a: -1}"), ("answers", "{a: -1}"), ("question", "sum(.a)"), ("answers", "{a: -1}")])
        given = answers(calls)
        self.assertIs(type(given), list)
        self.assertTrue(all(type(number) is int for number in given))


class NothingIsKept(unittest.TestCase):
    CALLS = encoded([("question", "(.[] | .n)"), ("token", "["), ("feed", "{n: 5}"), ("token", "7"), ("room",),
                     ("feed", "[[[[[[]]]]]]"), ("finish",), ("answers", "[{n: 1}]"), ("tokens", "{a: \"b\"}"), ("again",),
                     ("room",)])

    def test_what_is_handed_in_is_not_changed(self):
        calls = list(self.CALLS)
        answers(calls)
        self.assertEqual(calls, self.CALLS)

    def test_every_time_is_the_first(self):
        once = answers(self.CALLS)
        answers(encoded([("question", "first(0, .)"), ("token", "[")]))
        self.assertEqual(answers(self.CALLS), once)
        self.assertEqual(answers([7]), [5, 0, 0, 0, 0, 0])

    def test_what_is_given_back_is_new(self):
        once = answers(self.CALLS)
        awaited = list(once)
        once.clear()
        self.assertEqual(answers(self.CALLS), awaited)


if __name__ == "__main__":
    unittest.main()
