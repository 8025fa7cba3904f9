"""Promise 4: finish, and what each question finds."""

import unittest

from helper import NOT_NOW, NOTHING, fault, fed, feed_and_finish, found, last, number, result, run, tokens_as_calls

BILLION = 1000000000


def results_of(question, tree):
    """The places of the results, when the question has no fault; a text for each."""
    told, end = feed_and_finish(question, tree)
    places = []
    at = 1
    for thing in range(told[0]):
        assert told[at] == 1, question
        size = told[at + 1]
        places.append(bytes(told[at + 2:at + 2 + size]).decode())
        at += 2 + size
        at += 1 + told[at]
    assert end == found(len(places)), question
    return places


class WhenTheTreeIsWhole(unittest.TestCase):
    def test_refused_before_the_end(self):
        calls = []
        self.assertEqual(last(("finish",)), NOT_NOW)
        for text in ("[", "1", "{", "a:", "2", "}"):
            calls.append(("token", text))
            self.assertEqual(last(*calls, ("finish",)), NOT_NOW)
        self.assertEqual(last(*calls, ("token", "]"), ("finish",)), found(1))

    def test_refused_behind_a_fault_or_the_last_result_too(self):
        for question in (".a", "try(.a)", "first(0, .)", "first(1, .)", "count(.a)", "sum(first(1, ..))"):
            given = run(("question", question), ("token", "["), ("finish",), ("room",))
            self.assertEqual(given[2:], [NOT_NOW, [1, 1, 1, 0, 1]], question)

    def test_it_changes_nothing(self):
        given = run(("question", "sum(..)"), ("token", "["), ("finish",), ("feed", "3"), ("finish",), ("room",),
                    ("token", "]"), ("finish",), ("finish",), ("room",), ("token", "1"))
        self.assertEqual(given[2:], [NOT_NOW, [0], NOT_NOW, [1, 1, 2, 0, 0], NOTHING, fault(4, "/"), fault(4, "/"),
                                     [0, 1, 2, 1, 0], NOT_NOW])


class Steps(unittest.TestCase):
    def test_fields(self):
        self.assertEqual(results_of(".a", "{a: 1, b: 2}"), ["/a"])
        self.assertEqual(results_of(".b", "{a: 1, b: 2}"), ["/b"])
        self.assertEqual(results_of(".c", "{a: 1, b: 2}"), [])
        self.assertEqual(results_of(".a", "{aa: 1}"), [])
        self.assertEqual(results_of(".aa", "{a: 1}"), [])
        self.assertEqual(results_of("(.b | .a)", "{a: 1, b: {a: 2}}"), ["/b/a"])

    def test_one_item(self):
        tree = "[0, 1, 2, 3, 4, 5, 6, 7, 8, 9]"
        self.assertEqual(results_of(".[0]", tree), ["/0"])
        self.assertEqual(results_of(".[9]", tree), ["/9"])
        for question in (".[10]", ".[100]"):
            self.assertEqual(results_of(question, tree), [])
        self.assertEqual(results_of(".[0]", "[]"), [])

    def test_items_from_up_to(self):
        tree = "[0, 1, 2, 3]"
        for text, items in ((".[1:3]", [1, 2]), (".[0:1]", [0]), (".[2:]", [2, 3]), (".[:2]", [0, 1]),
                            (".[:]", [0, 1, 2, 3]), (".[:0]", []), (".[0:0]", []), (".[3:1]", []), (".[2:2]", []),
                            (".[3:100]", [3]), (".[4:]", []), (".[100:]", []), (".[0:100]", [0, 1, 2, 3]), (".[:4]", [0, 1, 2, 3])):
            self.assertEqual(results_of(text, tree), ["/%d" % item for item in items], text)

    def test_all(self):
        self.assertEqual(results_of(".[]", "[1, [2], {}]"), ["/0", "/1", "/2"])
        self.assertEqual(results_of(".[]", "{a: 1, b: [2]}"), ["/a", "/b"])
        self.assertEqual(results_of(".[]", "[]"), [])
        self.assertEqual(results_of(".[]", "{}"), [])

    def test_the_value_itself(self):
        self.assertEqual(results_of(".", "[1]"), ["/"])
        self.assertEqual(results_of("(. | (.a | .))", "{a: 1}"), ["/a"])

    def test_steps_behind_steps(self):
        tree = "[{a: [1, 2]}, {a: [3], b: 4}, {b: [5]}]"
        self.assertEqual(results_of("(.[] | (.a | .[]))", tree), ["/0/a/0", "/0/a/1", "/1/a/0"])
        self.assertEqual(results_of("((.[1:] | .b) | .)", tree), ["/1/b", "/2/b"])
        self.assertEqual(results_of("(.[0] | (.a | .[1]))", tree), ["/0/a/1"])

    def test_a_field_under_an_item_of_that_number(self):
        self.assertEqual(results_of("(.[1] | .a)", "[{a: 1}, {a: 2}]"), ["/1/a"])


class Deep(unittest.TestCase):
    def test_the_value_and_all_in_it(self):
        self.assertEqual(results_of("..", "[1, [2, {a: 3}], {}]"), ["/", "/0", "/1", "/1/0", "/1/1", "/1/1/a", "/2"])
        self.assertEqual(results_of("..", "null"), ["/"])

    def test_behind_steps(self):
        tree = "{a: [1, [2]], b: [3]}"
        self.assertEqual(results_of("(.a | ..)", tree), ["/a", "/a/0", "/a/1", "/a/1/0"])
        self.assertEqual(results_of("(.[] | ..)", tree), ["/a", "/a/0", "/a/1", "/a/1/0", "/b", "/b/0"])
        self.assertEqual(results_of("((.[] | .[0]) | ..)", tree), ["/a/0", "/b/0"])
        self.assertEqual(results_of("((.. | .) | where((. = 2)))", tree), ["/a/1/0"])

    def test_as_deep_as_a_tree_is(self):
        self.assertEqual(results_of("..", "[{a: [{b: [7]}]}]"), ["/", "/0", "/0/a", "/0/a/0", "/0/a/0/b", "/0/a/0/b/0"])
        self.assertEqual(results_of("(.[] | (.a | (.[] | (.b | .[]))))", "[{a: [{b: [7]}]}]"), ["/0/a/0/b/0"])


class Conditions(unittest.TestCase):
    # In their order.
    LEAVES = ["null", "false", "true", "-1000000000", "-2", "-1", "0", "1", "2", "10", "1000000000", "\"\"", "\" \"",
              "\"\\\"\"", "\"A\"", "\"A1\"", "\"B\"", "\"\\\\\"", "\"a\"", "\"aa\"", "\"b\"", "\"~\""]
    BEHIND = ["[]", "[null]", "{}", "{a: null}"]

    def holds(self, condition, tree):
        told, end = feed_and_finish("where(%s)" % condition, tree)
        self.assertIn(end, (found(0), found(1)))
        head = tree[0] if tree[0] in "[{" else tree
        self.assertEqual(told, fed(result("/", head)) if end == found(1) else [0])
        return end == found(1)

    def test_leaves_beside_leaves(self):
        for at, tree in enumerate(self.LEAVES):
            for other, leaf in enumerate(self.LEAVES):
                self.assertEqual(self.holds("(. = %s)" % leaf, tree), at == other, (tree, leaf))
                self.assertEqual(self.holds("(. < %s)" % leaf, tree), at < other, (tree, leaf))
                self.assertEqual(self.holds("(%s < .)" % leaf, tree), other < at, (tree, leaf))

    def test_lists_and_records_are_behind_every_leaf(self):
        for tree in self.BEHIND:
            for leaf in self.LEAVES:
                self.assertFalse(self.holds("(. = %s)" % leaf, tree), (tree, leaf))
                self.assertFalse(self.holds("(. < %s)" % leaf, tree), (tree, leaf))
                self.assertTrue(self.holds("(%s < .)" % leaf, tree), (tree, leaf))

    def test_not_and_or(self):
        yes = "(. = 5)"
        no = "(. = 6)"
        self.assertFalse(self.holds("not(%s)" % yes, "5"))
        self.assertTrue(self.holds("not(%s)" % no, "5"))
        self.assertTrue(self.holds("not(not(%s))" % yes, "5"))
        for one, first in ((yes, True), (no, False)):
            for other, second in ((yes, True), (no, False)):
                self.assertEqual(self.holds("(%s and %s)" % (one, other), "5"), first and second)
                self.assertEqual(self.holds("(%s or %s)" % (one, other), "5"), first or second)

    def test_nested(self):
        between = "where((not((. < 2)) and (not((4 < .)) or (. = 9))))"
        self.assertEqual(results_of("(.[] | %s)" % between, "[1, 2, 3, 4, 5, 9, 10]"), ["/1", "/2", "/3", "/5"])

    def test_on_each_of_the_values(self):
        self.assertEqual(results_of("(.. | where((2 < .)))", "[1, 3, {a: 4}]"), ["/", "/1", "/2", "/2/a"])
        self.assertEqual(results_of("(.[] | where((. = \"x\")))", "{a: \"x\", b: \"y\", c: [\"x\"]}"), ["/a"])


class Faults(unittest.TestCase):
    VALUES = {"null": "leaf", "true": "leaf", "5": "leaf", "\"a\"": "leaf", "[]": "list", "[1]": "list",
              "{}": "record", "{b: 1}": "record"}

    def test_which_step_faults_at_which_value(self):
        for step, fine, fault_number in ((".a", ("record",), 1), (".[0]", ("list",), 2), (".[1:2]", ("list",), 2),
                                         (".[:]", ("list",), 2), (".[]", ("list", "record"), 3)):
            for value, sort in self.VALUES.items():
                for tree, way, place in ((value, step, "/"), ("[0, %s]" % value, "(.[1] | %s)" % step, "/1"),
                                         ("{x: {y: %s}}" % value, "((.x | .y) | %s)" % step, "/x/y")):
                    told, end = feed_and_finish(way, tree)
                    if sort in fine:
                        self.assertEqual(end[0], 0)
                    else:
                        self.assertEqual(told, fed(fault(fault_number, place)))
                        self.assertEqual(end, fault(fault_number, place))

    def test_links_but_steps_have_none(self):
        for question in (".", "..", "where((. = 1))", "(.. | where(not((. = 1))))"):
            for value in self.VALUES:
                self.assertEqual(feed_and_finish(question, value)[1][0], 0)

    def test_the_first_fault_in_order_ends_all(self):
        told, end = feed_and_finish("(.[] | (.a | .b))", "[{a: {b: 1}}, {c: 2}, {a: 3}, 4, {a: {b: 5}}]")
        self.assertEqual(told, fed(result("/0/a/b", "1"), fault(1, "/2/a")))
        self.assertEqual(end, fault(1, "/2/a"))

    def test_no_fault_of_what_no_step_leads_to(self):
        self.assertEqual(results_of("(.[1] | .a)", "[0, {a: 1}, 2]"), ["/1/a"])
        self.assertEqual(results_of("(.b | .[0])", "{a: 0, b: [1], c: 2}"), ["/b/0"])
        self.assertEqual(results_of("((.[] | .x) | .[])", "[{a: 1}, {x: [2]}, {}]"), ["/1/x/0"])


class TryAndFirst(unittest.TestCase):
    def test_try_has_the_results_before_the_fault(self):
        told, end = feed_and_finish("try((.[] | .a))", "[{a: 1}, {a: 2}, 3, {a: 4}]")
        self.assertEqual(told, fed(result("/0/a", "1"), result("/1/a", "2")))
        self.assertEqual(end, found(2))
        self.assertEqual(feed_and_finish("try(.a)", "5"), [[0], found(0)])
        self.assertEqual(results_of("try(..)", "[1]"), ["/", "/0"])

    def test_first_has_so_many(self):
        tree = "[1, 2, 3]"
        for limit, places in ((0, []), (1, ["/0"]), (2, ["/0", "/1"]), (3, ["/0", "/1", "/2"]),
                              (4, ["/0", "/1", "/2"]), (60, ["/0", "/1", "/2"])):
            self.assertEqual(results_of("first(%d, .[])" % limit, tree), places)

    def test_first_and_a_fault(self):
        tree = "[{a: 1}, {a: 2}, 3, {a: 4}]"
        one = result("/0/a", "1")
        other = result("/1/a", "2")
        for limit, awaited in ((0, [[0], found(0)]), (1, [fed(one), found(1)]), (2, [fed(one, other), found(2)]),
                               (3, [fed(one, other, fault(1, "/2")), fault(1, "/2")]),
                               (60, [fed(one, other, fault(1, "/2")), fault(1, "/2")])):
            self.assertEqual(feed_and_finish("first(%d, (.[] | .a))" % limit, tree), awaited)
        self.assertEqual(feed_and_finish("first(0, .a)", "5"), [[0], found(0)])
        self.assertEqual(feed_and_finish("first(1, .a)", "5"), [fed(fault(1, "/")), fault(1, "/")])


class CountAndSum(unittest.TestCase):
    def test_count(self):
        self.assertEqual(feed_and_finish("count(..)", "[1, [2]]"), [[0], number(4)])
        self.assertEqual(feed_and_finish("count(.[])", "[]"), [[0], number(0)])
        self.assertEqual(feed_and_finish("count((.. | where((. = \"a\"))))", "[\"a\", {b: \"a\"}, 1]"), [[0], number(2)])

    def test_count_with_faults(self):
        tree = "[{a: 1}, {a: 2}, 3, {a: 4}]"
        for question, end in (("count((.[] | .a))", fault(1, "/2")), ("count(try((.[] | .a)))", number(2)),
                              ("count(first(2, (.[] | .a)))", number(2)), ("count(first(0, (.[] | .a)))", number(0)),
                              ("count(first(3, (.[] | .a)))", fault(1, "/2"))):
            self.assertEqual(feed_and_finish(question, tree), [[0], end], question)

    def test_sum(self):
        self.assertEqual(feed_and_finish("sum(.[])", "[1, -5, 30]"), [[0], number(26)])
        self.assertEqual(feed_and_finish("sum(.[])", "[1, -5]"), [[0], number(-4)])
        self.assertEqual(feed_and_finish("sum(.[])", "{}"), [[0], number(0)])
        self.assertEqual(feed_and_finish("sum(first(2, .[]))", "[1, 2, 3]"), [[0], number(3)])
        self.assertEqual(feed_and_finish("sum((.. | where(((-10 < .) and (. < 10)))))", "[7, [8, 10], \"x\"]"),
                         [[0], number(15)])

    def test_sum_with_faults_of_the_chain(self):
        tree = "[{a: 1}, {a: 2}, 3, {a: 4}]"
        for question, end in (("sum((.[] | .a))", fault(1, "/2")), ("sum(try((.[] | .a)))", number(3)),
                              ("sum(first(2, (.[] | .a)))", number(3)), ("sum(first(1, (.[] | .a)))", number(1)),
                              ("sum(first(0, (.[] | .a)))", number(0)), ("sum(first(3, (.[] | .a)))", fault(1, "/2"))):
            self.assertEqual(feed_and_finish(question, tree), [[0], end], question)

    def test_sum_of_what_is_no_number(self):
        for value in ("null", "true", "false", "\"1\"", "[]", "[1]", "{}"):
            self.assertEqual(feed_and_finish("sum(.)", value), [[0], fault(4, "/")])
            self.assertEqual(feed_and_finish("sum(.[])", "[1, %s, 2, null]" % value), [[0], fault(4, "/1")])
        self.assertEqual(feed_and_finish("sum(..)", "{a: 1}"), [[0], fault(4, "/")])
        self.assertEqual(feed_and_finish("sum(first(1, .[]))", "[1, null]"), [[0], number(1)])
        self.assertEqual(feed_and_finish("sum(first(2, .[]))", "[1, null]"), [[0], fault(4, "/1")])
        self.assertEqual(feed_and_finish("sum(try((.[] | .a)))", "[{a: null}, 3]"), [[0], fault(4, "/0/a")])

    def test_the_chains_fault_before_that_of_no_number(self):
        self.assertEqual(feed_and_finish("sum((.[] | .a))", "[{a: null}, 3]"), [[0], fault(1, "/1")])

    def test_sum_that_goes_too_far(self):
        for items, end in (([BILLION], number(BILLION)), ([BILLION, 1], fault(6, "/")), ([-BILLION], number(-BILLION)),
                           ([-BILLION, -1], fault(6, "/")), ([BILLION, 1, -1], number(BILLION)),
                           ([-BILLION, -BILLION, BILLION, 5], number(5 - BILLION)), ([BILLION] * 10, fault(6, "/"))):
            self.assertEqual(feed_and_finish("sum(.[])", str(items)), [[0], end], items)
        self.assertEqual(feed_and_finish("sum((.a | .[]))", "{a: [1000000000, 1]}"), [[0], fault(6, "/")])

    def test_no_number_before_too_far(self):
        self.assertEqual(feed_and_finish("sum(.[])", "[1000000000, 1, null]"), [[0], fault(4, "/2")])

    def test_the_chains_fault_before_too_far(self):
        self.assertEqual(feed_and_finish("sum((.[] | .a))", "[{a: 1000000000}, {a: 1}, 2]"), [[0], fault(1, "/2")])


class TokenByToken(unittest.TestCase):
    def test_the_same_end_as_fed(self):
        tokens = ["{", "a:", "[", "5", "-7", "]", "b:", "{", "}", "c:", "\"x\"", "}"]
        for question in ("..", ".a", "(.a | .[])", "(.[] | .[])", "try((.[] | .[]))", "first(2, ..)", "count(..)",
                         "sum((.a | .[]))", "sum(..)", "sum(try((.[] | .[])))", "(.b | .a)", "(.a | .a)"):
            calls = tokens_as_calls(tokens)
            end = feed_and_finish(question, "{a: [5, -7], b: {}, c: \"x\"}")[1]
            self.assertEqual(last(("question", question), *calls, ("finish",)), end)


if __name__ == "__main__":
    unittest.main()
