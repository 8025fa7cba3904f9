"""What a question finds while the tokens of a tree come, and what it has found at the end."""

from treestream.bytetext import codes, counted
from treestream.leaves import BIGGEST, NUMBER_RANK
from treestream.question import COUNT, SUM, TELL
from treestream.steps import NO_FAULT

RESULT = 1
FAULT = 2

END_RESULTS = 0
END_NUMBER = 1
END_FAULT = 2

NO_NUMBER = 4
SUM_TOO_FAR = 6


def place_text(place):
    if len(place) == 0:
        return codes("/")
    text = []
    for way in place:
        text.extend(codes("/"))
        if isinstance(way, int):
            text.extend(codes(str(way)))
        else:
            text.extend(way)
    return text


class Search:
    def __init__(self, question):
        self.question = question
        self.halted = question.limit == 0
        self.results = 0
        self.total = 0
        # Pairs of a fault's number and its place, or None: that of the chain, and the one
        # that sum has if the chain has none.
        self.chain_fault = None
        self.sum_fault = None

    # Takes the first token of the tree at the place; gives what's told, perhaps nothing.
    def meet(self, place, token):
        steps = self.question.steps
        if self.halted or not self.is_reached(place):
            return []
        if len(place) < len(steps):
            return self.look_for_fault(steps[len(place)].fault_in(token.kind), place)
        if len(place) > len(steps) and not self.question.deep:
            return []
        condition = self.question.condition
        if condition is not None and not condition.holds(token.key):
            return []
        return self.add_result(place, token)

    # Whether the steps, as far as there are any, lead along the place.
    def is_reached(self, place):
        for step, way in zip(self.question.steps, place):
            if not step.picks(way):
                return False
        return True

    def look_for_fault(self, number, place):
        if number == NO_FAULT:
            return []
        self.halted = True
        if self.question.tried:
            return []
        self.chain_fault = (number, place)
        if self.question.fold != TELL:
            return []
        return [FAULT, number] + counted(place_text(place))

    def add_result(self, place, token):
        self.results += 1
        self.halted = self.results == self.question.limit
        rank, value = token.key
        if rank == NUMBER_RANK:
            self.total += value
        elif self.sum_fault is None:
            self.sum_fault = (NO_NUMBER, place)
        if self.question.fold != TELL:
            return []
        return [RESULT] + counted(place_text(place)) + counted(token.text)

    # Gives the end, of a tree that's whole.
    def end(self):
        fault = self.chain_fault
        if fault is None and self.question.fold == SUM:
            fault = self.fault_of_sum()
        if fault is not None:
            number, place = fault
            return [END_FAULT, number] + counted(place_text(place))
        if self.question.fold == COUNT:
            return [END_NUMBER, self.results]
        if self.question.fold == SUM:
            return [END_NUMBER, self.total]
        return [END_RESULTS, self.results]

    def fault_of_sum(self):
        if self.sum_fault is None and (self.total < -BIGGEST or BIGGEST < self.total):
            return (SUM_TOO_FAR, [])
        return self.sum_fault
