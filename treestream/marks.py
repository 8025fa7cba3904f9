"""Tokens, the marks by which a tree is told."""

from treestream.bytetext import behind, byte_at, starts
from treestream.errors import WrongText
from treestream.leaves import LIST_RANK, RECORD_RANK, is_small_letter, read_leaf, read_name

LEAF = 0
LIST = 1
RECORD = 2
NAME = 3
LIST_END = 4
RECORD_END = 5

COLON = 58


# The key is there in the first token of a tree alone, and is the tree's; the name is
# there in a name token alone.
class Token:
    def __init__(self, kind, text, key, name):
        self.kind = kind
        self.text = text
        self.key = key
        self.name = name

    def begins_tree(self):
        return self.kind in (LEAF, LIST, RECORD)


def read_name_token(text, at):
    name, end = read_name(text, at)
    end = behind(text, end, ":")
    return Token(NAME, text[at:end], None, name), end


# Reads the first token of a tree.
def read_head(text, at):
    if starts(text, at, "["):
        return Token(LIST, text[at:at + 1], (LIST_RANK, 0), None), at + 1
    if starts(text, at, "{"):
        return Token(RECORD, text[at:at + 1], (RECORD_RANK, 0), None), at + 1
    key, end = read_leaf(text, at)
    return Token(LEAF, text[at:end], key, None), end


def sees_end(text, at):
    return starts(text, at, "]") or starts(text, at, "}")


def read_end(text, at):
    kind = LIST_END if starts(text, at, "]") else RECORD_END
    return Token(kind, text[at:at + 1], None, None), at + 1


# A leaf's text may have a colon in it, but none begins with a letter and ends with one.
def token_of(text):
    if is_small_letter(byte_at(text, 0)) and text[-1] == COLON:
        token, end = read_name_token(text, 0)
    elif sees_end(text, 0):
        token, end = read_end(text, 0)
    else:
        token, end = read_head(text, 0)
    if end != len(text):
        raise WrongText()
    return token
