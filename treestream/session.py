"""One object: its question, the stream that it reads, and what the calls answer."""

from treestream.bytetext import codes, counted
from treestream.marks import token_of
from treestream.question import question_of
from treestream.stream import Stream
from treestream.treetext import tree_tokens

NOTHING_TOLD = 0


# What a refusal may end comes first in each method, so that a refused call changes nothing.
class Session:
    def __init__(self):
        self.asked = question_of(codes("."))
        self.stream = Stream(self.asked)

    def ask(self, text):
        self.asked = question_of(text)
        self.stream = Stream(self.asked)
        return [len(self.asked.steps)]

    def hear_token(self, text):
        told = self.stream.hear(token_of(text))
        if len(told) == 0:
            return [NOTHING_TOLD]
        return told

    def hear_tree(self, text):
        tokens = tree_tokens(text)
        self.stream.rehearse(tokens)
        return self.stream.hear_all(tokens)

    def finish(self):
        return self.stream.finish()

    def begin_again(self):
        begun = self.stream.shape.entries
        self.stream = Stream(self.asked)
        return [begun]

    def list_tokens(self, text):
        tokens = tree_tokens(text)
        listed = [len(tokens)]
        for token in tokens:
            listed.extend(counted(token.text))
        return listed

    # The tree has a stream of its own, so that what has come stays as it is.
    def answer_tree(self, text):
        tokens = tree_tokens(text)
        stream = Stream(self.asked)
        told = stream.hear_all(tokens)
        return told + stream.finish()

    def room(self):
        return self.stream.room()
