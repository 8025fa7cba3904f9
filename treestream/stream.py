"""One stream of tokens: what has come of its tree, and what the question finds in it."""

from treestream.errors import CannotCome
from treestream.search import Search
from treestream.shape import Shape


class Stream:
    def __init__(self, question):
        self.shape = Shape()
        self.search = Search(question)

    # Refuses tokens of which one couldn't come behind the others, while none has come yet.
    def rehearse(self, tokens):
        trial = self.shape.twin()
        for token in tokens:
            trial.come(token)

    # Gives what's told at the token, perhaps nothing.
    def hear(self, token):
        place = self.shape.come(token)
        if place is None:
            return []
        return self.search.meet(place, token)

    # Takes tokens that can all come; gives how many things are told, and they.
    def hear_all(self, tokens):
        how_many = 0
        all_told = []
        for token in tokens:
            told = self.hear(token)
            if len(told) > 0:
                how_many += 1
                all_told.extend(told)
        return [how_many] + all_told

    def finish(self):
        if not self.shape.is_whole():
            raise CannotCome()
        return self.search.end()

    def room(self):
        whole = 1 if self.shape.is_whole() else 0
        halted = 1 if self.search.halted else 0
        return [len(self.shape.frames), self.shape.most_frames, self.shape.entries, whole, halted]
