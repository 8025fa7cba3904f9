"""The errors of this program: one for each refusal, and one for a call that there isn't."""


# The refusal -1: the text isn't what the call asks for.
class WrongText(Exception):
    pass


# The refusal -8: the token, or the end, can't come now.
class CannotCome(Exception):
    pass


# No refusal: what was handed in as a call's number is none.
class UnknownCall(Exception):
    pass
