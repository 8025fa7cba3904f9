"""The errors of this program: one for each refusal, and one for a call that isn't built."""


# The refusal -1: the text isn't what the call asks for.
class WrongText(Exception):
    pass


# The refusal -8: the token, or the end, can't come now.
class CannotCome(Exception):
    pass


# No refusal: a call's number that the program doesn't know was handed in.
class UnknownCall(Exception):
    pass
