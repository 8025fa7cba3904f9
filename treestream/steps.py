"""The steps of a chain: the fault that each finds in a tree, and which trees in it each picks."""

from treestream.marks import LEAF, LIST, RECORD

NO_FAULT = 0
NO_RECORD = 1
NO_LIST = 2
ONLY_LEAF = 3


# ".N"
class FieldStep:
    def __init__(self, name):
        self.name = name

    def fault_in(self, kind):
        if kind == RECORD:
            return NO_FAULT
        return NO_RECORD

    def picks(self, way):
        return way == self.name


# ".[I]" and ".[A:B]"; high is the first number behind those picked, or None.
class ItemsStep:
    def __init__(self, low, high):
        self.low = low
        self.high = high

    def fault_in(self, kind):
        if kind == LIST:
            return NO_FAULT
        return NO_LIST

    def picks(self, way):
        return self.low <= way and (self.high is None or way < self.high)


# ".[]"
class EachStep:
    def fault_in(self, kind):
        if kind == LEAF:
            return ONLY_LEAF
        return NO_FAULT

    def picks(self, way):
        return True
