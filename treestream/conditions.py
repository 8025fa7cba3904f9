"""Conditions: whether they hold of a tree shows at its first token, by its key."""


# "(. = L)"
class SameAs:
    def __init__(self, leaf):
        self.leaf = leaf

    def holds(self, key):
        return key == self.leaf


# "(. < L)"
class BeforeLeaf:
    def __init__(self, leaf):
        self.leaf = leaf

    def holds(self, key):
        return key < self.leaf


# "(L < .)"
class BehindLeaf:
    def __init__(self, leaf):
        self.leaf = leaf

    def holds(self, key):
        return self.leaf < key


# "not(C)"
class Negation:
    def __init__(self, part):
        self.part = part

    def holds(self, key):
        return not self.part.holds(key)


# "(C and D)"
class BothOf:
    def __init__(self, one, other):
        self.one = one
        self.other = other

    def holds(self, key):
        return self.one.holds(key) and self.other.holds(key)


# "(C or D)"
class EitherOf:
    def __init__(self, one, other):
        self.one = one
        self.other = other

    def holds(self, key):
        return self.one.holds(key) or self.other.holds(key)
