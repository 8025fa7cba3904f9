"""The text of a whole tree, taken apart into its tokens."""

from treestream.bytetext import behind
from treestream.errors import WrongText
from treestream.marks import read_end, read_head, read_name_token, sees_end
from treestream.shape import Shape


# Gives the token and the place behind it, and behind the blank that a name has behind it.
def next_token(text, at, shape):
    if sees_end(text, at):
        return read_end(text, at)
    if shape.awaits_comma():
        at = behind(text, at, ", ")
    if not shape.awaits_name():
        return read_head(text, at)
    token, end = read_name_token(text, at)
    return token, behind(text, end, " ")


# The bounds of a tree end this loop early, however deep a refused text nests.
def tree_tokens(text):
    shape = Shape()
    tokens = []
    at = 0
    while not shape.is_whole():
        token, at = next_token(text, at, shape)
        if not shape.can_come(token):
            raise WrongText()
        shape.come(token)
        tokens.append(token)
    if at != len(text):
        raise WrongText()
    return tokens
