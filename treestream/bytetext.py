"""Texts as lists of bytes: what every reader of one needs."""

from treestream.errors import WrongText


def codes(word):
    return [ord(sign) for sign in word]


# Behind the end stands -1, which is no byte, so that no reader has to ask for the end.
def byte_at(text, at):
    if at < len(text):
        return text[at]
    return -1


def starts(text, at, word):
    return text[at:at + len(word)] == codes(word)


# Gives the place behind the word.
def behind(text, at, word):
    if not starts(text, at, word):
        raise WrongText()
    return at + len(word)


def counted(numbers):
    return [len(numbers)] + numbers
