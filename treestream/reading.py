"""The way in: a list of calls on one object, and the list of their answers."""

from treestream.bytetext import counted
from treestream.errors import CannotCome, UnknownCall, WrongText
from treestream.session import Session

QUESTION = 0
TOKEN = 1
FEED = 2
FINISH = 3
AGAIN = 4
TOKENS = 5
ANSWERS = 6
ROOM = 7


def obey(session, number, text):
    if number == QUESTION:
        return session.ask(text)
    if number == TOKEN:
        return session.hear_token(text)
    if number == FEED:
        return session.hear_tree(text)
    if number == FINISH:
        return session.finish()
    if number == AGAIN:
        return session.begin_again()
    if number == TOKENS:
        return session.list_tokens(text)
    if number == ANSWERS:
        return session.answer_tree(text)
    if number == ROOM:
        return session.room()
    raise UnknownCall()


def answer_of(session, number, text):
    try:
        return obey(session, number, text)
    except WrongText:
        return [-1]
    except CannotCome:
        return [-8]


def answers(calls):
    session = Session()
    given = []
    at = 0
    while at < len(calls):
        number = calls[at]
        text = []
        at += 1
        if number in (QUESTION, TOKEN, FEED, TOKENS, ANSWERS):
            end = at + 1 + calls[at]
            text = calls[at + 1:end]
            at = end
        given.extend(counted(answer_of(session, number, text)))
    return given
