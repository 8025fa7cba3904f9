"""How the tests write calls and the answers that they await."""

from treestream.reading import answers

NUMBERS = {"question": 0, "token": 1, "feed": 2, "finish": 3, "room": 7}

WRONG = [-1]
NOT_NOW = [-8]
NOTHING = [0]


def as_bytes(text):
    return list(text.encode("latin-1")) if isinstance(text, str) else list(text)


def encoded(calls):
    """The list of numbers of calls such as ("feed", "[1]") and ("room",)."""
    numbers = []
    for name, *texts in calls:
        numbers.append(NUMBERS[name])
        for text in texts:
            numbers.append(len(as_bytes(text)))
            numbers.extend(as_bytes(text))
    return numbers


def split(numbers):
    """The answers, each a list of its numbers."""
    found = []
    at = 0
    while at < len(numbers):
        end = at + 1 + numbers[at]
        assert end <= len(numbers)
        found.append(numbers[at + 1:end])
        at = end
    return found


def run(*calls):
    return split(answers(encoded(calls)))


def last(*calls):
    return run(*calls)[-1]


def counted(text):
    return [len(as_bytes(text))] + as_bytes(text)


def result(place, head):
    return [1] + counted(place) + counted(head)


def fault(number, place):
    return [2, number] + counted(place)


def fed(*things):
    return [len(things)] + [number for thing in things for number in thing]


def found(how_many):
    return [0, how_many]


def number(value):
    return [1, value]


def feed_and_finish(question, tree):
    """What feed and finish answer when this question is asked of this tree."""
    given = run(("question", question), ("feed", tree), ("finish",))
    assert given[0] != WRONG, question
    return given[1:]


def tokens_as_calls(texts):
    return [("token", text) for text in texts]
