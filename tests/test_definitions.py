"""The answers beside those of the document's definitions, written down for whole trees.

Trees and questions are drawn by chance, from seeds that stay the same.
A tree is here a leaf's text, ("list", trees) or ("record", pairs of a name and a tree).
"""

import random
import unittest

from helper import NOT_NOW, NOTHING, WRONG, fault, fed, found, number, result, run, texts, tokens_as_calls

LEAVES = ["null", "false", "true", "-3", "0", "1", "2", "7", "1000000000", "-1000000000", "\"\"", "\"a\"", "\"\\\"\"", "\"b c\""]
NUMBERS = ["1000000000", "-1000000000", "999999999", "5"]
NAMES = ["a", "a1", "b", "c", "d"]


# Trees

def sort_of(tree):
    return "leaf" if isinstance(tree, str) else tree[0]


def parts_of(tree):
    """Pairs of a way and a tree."""
    if sort_of(tree) == "leaf":
        return []
    return list(enumerate(tree[1])) if tree[0] == "list" else list(tree[1])


def head_of(tree):
    return {"leaf": tree, "list": "[", "record": "{"}[sort_of(tree)]


def text_of(tree):
    if sort_of(tree) == "list":
        return "[" + ", ".join(text_of(item) for item in tree[1]) + "]"
    if sort_of(tree) == "record":
        return "{" + ", ".join(name + ": " + text_of(value) for name, value in tree[1]) + "}"
    return tree


def tokens_of(tree):
    if sort_of(tree) == "list":
        return ["["] + [token for item in tree[1] for token in tokens_of(item)] + ["]"]
    if sort_of(tree) == "record":
        return ["{"] + [token for name, value in tree[1] for token in [name + ":"] + tokens_of(value)] + ["}"]
    return [tree]


def entries_of(tree):
    return 1 + sum(entries_of(part) for way, part in parts_of(tree))


def depth_of(tree):
    return 1 + max((depth_of(part) for way, part in parts_of(tree)), default=0)


def is_within_bounds(tree):
    if entries_of(tree) > 40 or depth_of(tree) > 6:
        return False
    names = [way for way, part in parts_of(tree)]
    if len(names) > {"leaf": 0, "list": 10, "record": 8}[sort_of(tree)] or names != sorted(set(names)):
        return False
    return all(is_within_bounds(part) for way, part in parts_of(tree))


def drawn_tree(chance, depth, leaves):
    kind = chance.choice(["leaf", "list", "record"]) if depth > 1 else "leaf"
    if kind == "leaf":
        return chance.choice(leaves)
    size = chance.randrange(4)
    if kind == "list":
        return ("list", [drawn_tree(chance, depth - 1, leaves) for item in range(size)])
    return ("record", [(name, drawn_tree(chance, depth - 1, leaves)) for name in sorted(chance.sample(NAMES, size))])


# Conditions: ("=", leaf), ("<", leaf), (">", leaf), ("not", c), ("and", c, d), ("or", c, d)

def key_of(tree):
    if sort_of(tree) != "leaf":
        return (5, 0)
    if tree in ("null", "false", "true"):
        return (["null", "false", "true"].index(tree), 0)
    if tree[0] == "\"":
        return (4, tree[1:-1].replace("\\\"", "\""))
    return (3, int(tree))


def holds(condition, tree):
    kind = condition[0]
    if kind == "not":
        return not holds(condition[1], tree)
    if kind == "and":
        return all(holds(part, tree) for part in condition[1:])
    if kind == "or":
        return any(holds(part, tree) for part in condition[1:])
    one, other = key_of(tree), key_of(condition[1])
    return {"=": one == other, "<": one < other, ">": other < one}[kind]


def condition_text(condition):
    kind = condition[0]
    if kind == "not":
        return "not(" + condition_text(condition[1]) + ")"
    if kind in ("and", "or"):
        return "(" + (" " + kind + " ").join(condition_text(part) for part in condition[1:]) + ")"
    return {"=": "(. = %s)", "<": "(. < %s)", ">": "(%s < .)"}[kind] % condition[1]


def drawn_condition(chance, depth):
    kind = chance.choice(["=", "<", ">", ">", "not", "and", "or"]) if depth > 1 else chance.choice("=<>")
    if kind in ("=", "<", ">"):
        return (kind, chance.choice(LEAVES))
    parts = 1 if kind == "not" else 2
    return (kind,) + tuple(drawn_condition(chance, depth - 1) for part in range(parts))


# Links: (".",), ("field", name), ("items", text, from, up to), ("all",), ("deep",), ("where", condition)

class Fault(Exception):
    pass


def values_of(link, place, tree):
    """Pairs of a place and a tree; a Fault behind them, if there's one."""
    kind = link[0]
    if kind == ".":
        yield place, tree
    elif kind == "where":
        if holds(link[1], tree):
            yield place, tree
    elif kind == "deep":
        yield place, tree
        for way, part in parts_of(tree):
            yield from values_of(link, place + "/" + str(way), part)
    else:
        if kind == "field" and sort_of(tree) != "record":
            raise Fault(1, place)
        if kind == "items" and sort_of(tree) != "list":
            raise Fault(2, place)
        if kind == "all" and sort_of(tree) == "leaf":
            raise Fault(3, place)
        for way, part in parts_of(tree):
            if kind == "all" or (kind == "field" and way == link[1]) or (kind == "items" and link[2] <= way < link[3]):
                yield place + "/" + str(way), part


def results_of(links, place, tree):
    if not links:
        yield place, tree
        return
    for further_place, further in values_of(links[0], place, tree):
        yield from results_of(links[1:], further_place, further)


def drawn_step(chance):
    kind = chance.choice(["field", "one", "from", "upto", "both", "colon", "all", "all"])
    low, high = chance.randrange(3), chance.randrange(4)
    return {"field": ("field", chance.choice(NAMES)), "one": ("items", "[%d]" % low, low, low + 1),
            "from": ("items", "[%d:]" % low, low, 101), "upto": ("items", "[:%d]" % high, 0, high),
            "both": ("items", "[%d:%d]" % (low, high), low, high), "colon": ("items", "[:]", 0, 101),
            "all": ("all",)}[kind]


def link_text(link):
    kind = link[0]
    if kind in ("field", "items"):
        return "." + link[1]
    if kind == "where":
        return "where(" + condition_text(link[1]) + ")"
    return {".": ".", "all": ".[]", "deep": ".."}[kind]


def drawn_links(chance):
    links = [drawn_step(chance) for step in range(chance.choice([0, 0, 1, 1, 2, 2, 3]))]
    if chance.random() < 0.4:
        links.append(("deep",))
    if chance.random() < 0.3:
        links.append(("where", drawn_condition(chance, 3)))
    if not links or chance.random() < 0.3:
        links.insert(chance.randrange(len(links) + 1), (".",))
    return links


def chain_text(chance, links):
    if len(links) == 1:
        return link_text(links[0])
    middle = chance.randrange(1, len(links))
    return "(%s | %s)" % (chain_text(chance, links[:middle]), chain_text(chance, links[middle:]))


# Questions: the fold's name or "", "try" or "first" or "", the limit, the links.

def drawn_question(chance):
    return (chance.choice(["", "", "count", "sum"]), chance.choice(["", "", "try", "first"]), chance.randrange(5),
            drawn_links(chance))


def question_text(chance, question):
    fold, around, limit, links = question
    text = chain_text(chance, links)
    if around == "try":
        text = "try(%s)" % text
    if around == "first":
        text = "first(%d, %s)" % (limit, text)
    return "%s(%s)" % (fold, text) if fold else text


def shown(place):
    return place or "/"


def awaited_of(question, tree):
    """What's told, by the place of the tree at whose first token it is; the end; whether the reading is halted."""
    fold, around, limit, links = question
    values = []
    halting = None
    try:
        for value in results_of(links, "", tree):
            if around == "first" and len(values) == limit:
                break
            values.append(value)
    except Fault as error:
        halting = error.args
    if around == "first" and len(values) == limit:
        halting = None
    is_halted = halting is not None or (around == "first" and len(values) == limit)
    end_fault = None if around == "try" else halting
    told = {}
    if not fold:
        told = {place: result(shown(place), head_of(part)) for place, part in values}
        if end_fault:
            told[end_fault[1]] = fault(end_fault[0], shown(end_fault[1]))
    return told, end_of(fold, values, end_fault), is_halted


def end_of(fold, values, end_fault):
    strays = [place for place, part in values if key_of(part)[0] != 3]
    if end_fault is None and fold == "sum":
        if strays:
            end_fault = (4, strays[0])
        elif abs(sum(int(part) for place, part in values)) > 1000000000:
            end_fault = (6, "")
    if end_fault:
        return fault(end_fault[0], shown(end_fault[1]))
    if fold == "count":
        return number(len(values))
    if fold == "sum":
        return number(sum(int(part) for place, part in values))
    return found(len(values))


def places_at_tokens(tree, place=""):
    """For each token the place of the tree that begins with it, or None."""
    places = [place]
    for way, part in parts_of(tree):
        if sort_of(tree) == "record":
            places.append(None)
        places.extend(places_at_tokens(part, place + "/" + str(way)))
    return places + ([] if sort_of(tree) == "leaf" else [None])


class QuestionsOfTrees(unittest.TestCase):
    def compare(self, text, question, tree):
        told, end, is_halted = awaited_of(question, tree)
        places = places_at_tokens(tree)
        by_token = [told.get(place, NOTHING) if place is not None else NOTHING for place in places]
        by_feed = fed(*[thing for thing in by_token if thing != NOTHING])
        self.assertEqual(len(by_feed) > 1, len(told) > 0)
        steps = len([link for link in question[3] if link[0] in ("field", "items", "all")])
        message = (text, text_of(tree))
        whole = [0, max(depth_of_open(tokens_of(tree))), entries_of(tree), 1, 1 if is_halted else 0]
        given = run(("question", text), ("feed", text_of(tree)), ("finish",), ("room",), ("again",),
                    *tokens_as_calls(tokens_of(tree)), ("finish",), ("room",), ("answers", text_of(tree)),
                    ("tokens", text_of(tree)))
        self.assertEqual(given[:5], [[steps], by_feed, end, whole, [entries_of(tree)]], message)
        self.assertEqual(given[5:-2], by_token + [end, whole], message)
        self.assertEqual(given[-2:], [by_feed + end, texts(*tokens_of(tree))], message)

    def test_drawn_by_chance(self):
        chance = random.Random(20)
        compared = 0
        ends = {}
        while compared < 6000:
            tree = drawn_tree(chance, 5, chance.choice([LEAVES, LEAVES, NUMBERS]))
            question = drawn_question(chance)
            text = question_text(chance, question)
            if is_within_bounds(tree) and run(("question", text)) != [[-1]]:
                self.compare(text, question, tree)
                compared += 1
                told, end, is_halted = awaited_of(question, tree)
                kind = tuple(end[:2]) if end[0] == 2 else (end[0], end[1] != 0)
                ends[kind] = ends.get(kind, 0) + 1
        awaited = {(0, False), (0, True), (1, False), (1, True), (2, 1), (2, 2), (2, 3), (2, 4), (2, 6)}
        self.assertEqual(set(ends), awaited)


def depth_of_open(tokens):
    counts = [0]
    for token in tokens:
        counts.append(counts[-1] + {"[": 1, "{": 1, "]": -1, "}": -1}.get(token, 0))
    return counts


# Which tokens can come

def completed(tokens):
    """The tree of the tokens and of the fewest others behind them; None if there's none in this order of signs."""
    ends = []
    for token in tokens:
        if token in ("[", "{"):
            ends.append({"[": "]", "{": "}"}[token])
        elif token in ("]", "}"):
            if not ends or ends.pop() != token:
                return None
    missing = ["0"] if tokens[-1].endswith(":") else []
    tree, behind = tree_at(list(tokens) + missing + ends[::-1], 0)
    return tree if behind == len(tokens) + len(missing) + len(ends) else None


def tree_at(tokens, at):
    token = tokens[at]
    if token in ("]", "}") or token.endswith(":"):
        return None, -1
    if token == "[":
        parts = []
        at += 1
        while tokens[at] != "]":
            part, at = tree_at(tokens, at)
            if at == -1:
                return None, -1
            parts.append(part)
        return ("list", parts), at + 1
    if token == "{":
        return record_at(tokens, at + 1)
    return token, at + 1


def record_at(tokens, at):
    parts = []
    while tokens[at] != "}":
        name = tokens[at]
        if not name.endswith(":"):
            return None, -1
        part, at = tree_at(tokens, at + 1)
        if at == -1:
            return None, -1
        parts.append((name[:-1], part))
    return ("record", parts), at + 1


class WhichTokensCanCome(unittest.TestCase):
    WEIGHTS = (["1"] * 4 + ["\"x\""] + ["["] * 4 + ["]"] * 2 + ["{"] * 3 + ["}"] * 2,
               ["1", "[", "[", "{", "{", "]", "}"], ["1"] * 6 + ["[", "]", "{", "}"])
    NAME_TOKENS = [name + ":" for name in ("a", "aa", "b", "c", "d", "e", "f", "g", "h", "i", "j")]

    def test_drawn_by_chance(self):
        chance = random.Random(6)
        come_at_most = 0
        for line in range(700):
            weights = chance.choice(self.WEIGHTS)
            come = []
            calls = []
            awaited = []
            while len(calls) < 98:
                token = chance.choice(weights + self.NAME_TOKENS[:chance.randrange(12)])
                calls.append(("token", token))
                tree = completed(come + [token])
                can_come = tree is not None and is_within_bounds(tree)
                awaited.append(can_come)
                if can_come:
                    come.append(token)
            given = run(*calls)
            self.assertEqual([answer != NOT_NOW for answer in given], awaited, calls)
            come_at_most = max(come_at_most, len(come))
        self.assertGreater(come_at_most, 40)


# Whole lines of calls

class Model:
    """What the promises say of an object: its question, the tokens that have come, and no more."""

    def __init__(self):
        self.question = ("", "", 0, [(".",)])
        self.come = []

    def can_come(self, tokens):
        for end in range(len(tokens)):
            tree = completed(self.come + tokens[:end + 1])
            if tree is None or not is_within_bounds(tree):
                return False
        return True

    def is_whole(self):
        return bool(self.come) and depth_of_open(self.come)[-1] == 0

    def told(self, tokens):
        """What's told at each of these when they come behind the others."""
        everything = self.come + tokens
        tree = completed(everything)
        told = awaited_of(self.question, tree)[0]
        given = [told.get(place, NOTHING) for place in places_at_tokens(tree)[:len(everything)]]
        return given[len(self.come):]

    def is_halted(self):
        # A name changes nothing yet; without it no tree has to be added to complete the others.
        come = self.come[:-1] if self.come and self.come[-1].endswith(":") else self.come
        if not come:
            return self.question[1] == "first" and self.question[2] == 0
        return awaited_of(self.question, completed(come))[2]

    def begun(self):
        return len([token for token in self.come if token not in ("]", "}") and not token.endswith(":")])

    def answer(self, name, thing):
        """The thing is None, a question, a token's text or a tree."""
        if name == "question":
            self.question, self.come = thing, []
            return [len([link for link in thing[3] if link[0] in ("field", "items", "all")])]
        if name in ("token", "feed"):
            tokens = [thing] if name == "token" else tokens_of(thing)
            if not self.can_come(tokens):
                return NOT_NOW
            told = self.told(tokens)
            self.come = self.come + tokens
            return told[0] if name == "token" else fed(*[what for what in told if what != NOTHING])
        if name == "finish":
            return awaited_of(self.question, completed(self.come))[1] if self.is_whole() else NOT_NOW
        if name == "again":
            begun, self.come = self.begun(), []
            return [begun]
        if name == "tokens":
            return texts(*tokens_of(thing))
        if name == "answers":
            other = Model()
            other.question = self.question
            return other.answer("feed", thing) + other.answer("finish", None)
        opened = depth_of_open(self.come)
        return [opened[-1], max(opened), self.begun(), 1 if self.is_whole() else 0, 1 if self.is_halted() else 0]


class LinesOfCalls(unittest.TestCase):
    NAMES = ["question"] + ["token"] * 10 + ["feed"] * 4 + ["finish"] * 3 + ["again", "tokens", "answers", "answers"]
    TOKENS = ["[", "[", "{", "{", "]", "}", "]", "}", "1", "7", "null", "\"a\"", "a:", "b:", "c:"]
    SPOILT = ["", "x", "[1", "{a: ", "[1]]", "(. | .", "first(61, .)", "nul", "\"", "01", "[[[[[[1]]]]]]"]

    def drawn_call(self, chance):
        """The call's name, its text or None, and what the text stands for."""
        name = chance.choice(self.NAMES)
        if name in ("finish", "again"):
            return name, None, None
        if chance.random() < 0.05:
            return name, chance.choice(self.SPOILT), WRONG
        if name == "token":
            token = chance.choice(self.TOKENS)
            return name, token, token
        if name == "question":
            question = drawn_question(chance)
            text = question_text(chance, question)
            # Too many nodes are another test's matter.
            return (name, text, question) if run((name, text)) != [WRONG] else (name, "..", ("", "", 0, [("deep",)]))
        tree = drawn_tree(chance, chance.choice([1, 2, 3, 5]), LEAVES)
        return (name, text_of(tree), tree) if is_within_bounds(tree) else (name, "7", "7")

    def test_drawn_by_chance(self):
        chance = random.Random(5)
        seen = {}
        for line in range(400):
            model = Model()
            calls = []
            awaited = []
            for call in range(50):
                name, text, thing = self.drawn_call(chance)
                calls.append((name,) if text is None else (name, text))
                awaited.append(WRONG if thing == WRONG else model.answer(name, thing))
                calls.append(("room",))
                awaited.append(model.answer("room", None))
                seen[name] = seen.get(name, 0) + (awaited[-2][0] >= 0)
                seen[tuple(awaited[-1][3:])] = seen.get(tuple(awaited[-1][3:]), 0) + 1
            self.assertEqual(run(*calls), awaited, calls)
        # Each call is answered, not refused, often enough, and at a whole tree and a halt too.
        self.assertEqual(len(seen), 7 + 4)
        self.assertGreater(min(seen.values()), 300, seen)


if __name__ == "__main__":
    unittest.main()
