"""One object: its question, what has come of the tree, and what the calls answer."""

from treestream.bytetext import codes
from treestream.errors import CannotCome
from treestream.marks import token_of
from treestream.question import question_of
from treestream.search import Search
from treestream.shape import Shape
from treestream.treetext import tree_tokens

NOTHING_TOLD = 0


# What a refusal may end comes first in each method, so that a refused call changes nothing.
class Session:
    def __init__(self):
        self.asked = question_of(codes("."))
        self.restart()

    # No token has come from now on.
    def restart(self):
        self.shape = Shape()
        self.search = Search(self.asked)

    def ask(self, text):
        self.asked = question_of(text)
        self.restart()
        return [len(self.asked.steps)]

    # Gives what's told at the token, perhaps nothing.
    def hear(self, token):
        place = self.shape.come(token)
        if place is None:
            return []
        return self.search.meet(place, token)

    def hear_token(self, text):
        told = self.hear(token_of(text))
        if len(told) == 0:
            return [NOTHING_TOLD]
        return told

    # All tokens are tried on a twin ahead, so that none comes if one of them can't.
    def hear_tree(self, text):
        tokens = tree_tokens(text)
        trial = self.shape.twin()
        for token in tokens:
            trial.come(token)
        how_many = 0
        all_told = []
        for token in tokens:
            told = self.hear(token)
            if len(told) > 0:
                how_many += 1
                all_told.extend(told)
        return [how_many] + all_told

    def finish(self):
        if not self.shape.is_whole():
            raise CannotCome()
        return self.search.end()

    def room(self):
        whole = 1 if self.shape.is_whole() else 0
        halted = 1 if self.search.halted else 0
        return [len(self.shape.frames), self.shape.most_frames, self.shape.entries, whole, halted]
