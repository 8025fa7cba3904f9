"""How the tests write calls and the answers that they await."""

from treestream.reading import answers

NUMBERS = {"question": 0, "token": 1, "feed": 2, "finish": 3, "again": 4, "tokens": 5, "answers": 6, "room": 7}

WRONG = [-1]
NOT_NOW = [-8]
NOTHING = [0]

FORTY_ENTRIES = "[" + ", ".join(["[" + ", ".join(["1"] * 10) + "]"] * 3 + ["1"] * 6) + "]"
EIGHT_FIELDS = "{" + ", ".join(name + ": 0" for name in "abcdefgh") + "}"

# Every sort of leaf, the empty list and record, and trees at the bounds.
TREES = [
    "null", "true", "false", "0", "-1", "1000000000", "-1000000000", "\"\"", "\"a b\"", "\"\\\\\\\"\"", "\", ]\"",
    "\"" + "\\\"" * 20 + "\"",
    "[]", "[1]", "[1, 2]", "[[], {}]", "[null, true, false, -5, \"a, b\", [1], {a: 1}]",
    "[" + ", ".join(["0"] * 10) + "]",
    "{}", "{a: 1}", "{a: 1, b: 2}", "{a: {}, aa: [], b: {a: 1}}", "{a: \"x: y\"}", "{abcdefghij: 1}", "{null: null}",
    EIGHT_FIELDS,
    "[[[[[[]]]]]]", "[[[[[1]]]]]", "[[[[[{}]]]]]", "{a: {a: {a: {a: {a: {}}}}}}", "{a: {a: {a: {a: {a: 1}}}}}",
    FORTY_ENTRIES,
]

NO_TREES = [
    "", " ", "1 ", " 1", "1 2", "1, 2", "nul", "-0", "01", "1000000001", "-1000000001", "[1000000001]", "[-0]", "[00]",
    "\"", "\"a", "\"\\n\"", "\"123456789012345678901\"", "[\"123456789012345678901\"]", "\"\x7f\"", "[\"\xe9\"]",
    "[", "]", "{", "}", "a:", "a: 1", "[1", "1]", "{a: 1", "[1}", "{a: 1]", "[[1]", "[1]]", "[]]", "{}}", "[] ",
    "[ ]", "[1 ]", "[ 1]", "[1,2]", "[1 , 2]", "[1,  2]", "[1, ]", "[, 1]", "[,]", "[1,, 2]", "[1 2]", "[1, 2,]",
    "[1][2]", "[1], [2]", "[a: 1]", "[nulls]", "[a]",
    "{ }", "{a}", "{a:}", "{a: }", "{a:1}", "{a :1}", "{a : 1}", "{a:  1}", "{ a: 1}", "{a: 1 }", "{a: 1,b: 2}",
    "{a: 1, }", "{, a: 1}", "{a: 1, 2}", "{1}", "{1: 2}", "{\"a\": 1}", "{A: 1}", "{a: b: 1}", "{a: 1 b: 2}",
    "{a: 1, a: 2}", "{b: 1, a: 2}", "{aa: 1, a: 2}", "{abcdefghijk: 1}", "{a1: 1, a0: 2}", "{a: {b: 1, b: 2}}",
    "[" + ", ".join(["0"] * 11) + "]",
    "{" + ", ".join(name + ": 0" for name in "abcdefghi") + "}",
    "[[[[[[1]]]]]]", "[[[[[[[]]]]]]]", "[[[[[{a: 1}]]]]]", "{a: {a: {a: {a: {a: {a: 1}}}}}}",
    FORTY_ENTRIES[:-1] + ", 1]",
    "[" * 3000, "{a: " * 750, "[" * 1500 + "]" * 1500, "]" * 3000, "1" * 3000, "\"" + "a" * 2999, "[1, " * 750,
]


def as_bytes(text):
    return list(text.encode("latin-1")) if isinstance(text, str) else list(text)


def encoded(calls):
    """The list of numbers of calls such as ("feed", "[1]") and ("room",)."""
    numbers = []
    for name, *texts in calls:
        numbers.append(NUMBERS[name])
        for text in texts:
            numbers.append(len(as_bytes(text)))
            numbers.extend(as_bytes(text))
    return numbers


def split(numbers):
    """The answers, each a list of its numbers."""
    found = []
    at = 0
    while at < len(numbers):
        end = at + 1 + numbers[at]
        assert end <= len(numbers)
        found.append(numbers[at + 1:end])
        at = end
    return found


def run(*calls):
    return split(answers(encoded(calls)))


def last(*calls):
    return run(*calls)[-1]


def counted(text):
    return [len(as_bytes(text))] + as_bytes(text)


def result(place, head):
    return [1] + counted(place) + counted(head)


def fault(number, place):
    return [2, number] + counted(place)


def fed(*things):
    return [len(things)] + [number for thing in things for number in thing]


def texts(*those):
    return [len(those)] + [number for text in those for number in counted(text)]


def found(how_many):
    return [0, how_many]


def number(value):
    return [1, value]


def feed_and_finish(question, tree):
    """What feed and finish answer when this question is asked of this tree."""
    given = run(("question", question), ("feed", tree), ("finish",))
    assert given[0] != WRONG, question
    return given[1:]


def tokens_as_calls(tokens):
    return [("token", text) for text in tokens]
