"""Names, numbers and leaves as they stand in texts, and the order of trees.

Each reader here gives what it read and the place behind it.
What is known of a tree at its first token orders it against a leaf: its key, a pair of
its sort's rank and a value by which two of one sort are ordered.
"""

from treestream.bytetext import behind, byte_at, starts
from treestream.errors import WrongText

# The ranks 0 to 2 are those of null, false and true.
NUMBER_RANK = 3
TEXT_RANK = 4
LIST_RANK = 5
RECORD_RANK = 6

BIGGEST = 1000000000
LONGEST_NAME = 10
LONGEST_TEXT = 20

MARK = 34
MINUS = 45
BACKSLASH = 92


def is_small_letter(byte):
    return 97 <= byte <= 122


def is_digit(byte):
    return 48 <= byte <= 57


def is_sign(byte):
    return 32 <= byte <= 126


def read_name(text, at):
    if not is_small_letter(byte_at(text, at)):
        raise WrongText()
    end = at + 1
    while is_small_letter(byte_at(text, end)) or is_digit(byte_at(text, end)):
        end += 1
    if end - at > LONGEST_NAME:
        raise WrongText()
    return text[at:end], end


# The digits' number is kept from growing beyond all bounds: once it is above high and
# above -low, no further digit can bring it back.
def read_number(text, at, low, high):
    below = byte_at(text, at) == MINUS
    start = at + 1 if below else at
    end = start
    number = 0
    while is_digit(byte_at(text, end)) and number <= max(high, -low):
        number = number * 10 + text[end] - 48
        end += 1
    needless = byte_at(text, start) == 48 and (below or end - start > 1)
    if end == start or needless:
        raise WrongText()
    if below:
        number = -number
    if number < low or high < number:
        raise WrongText()
    return number, end


# Gives the text without its marks, and each \ that only guards the byte behind it left out.
def read_marked(text, at):
    end = behind(text, at, "\"")
    inner = []
    while byte_at(text, end) != MARK:
        if byte_at(text, end) == BACKSLASH:
            end += 1
            if byte_at(text, end) not in (MARK, BACKSLASH):
                raise WrongText()
        if not is_sign(byte_at(text, end)) or len(inner) == LONGEST_TEXT:
            raise WrongText()
        inner.append(text[end])
        end += 1
    return inner, end + 1


# Gives the leaf's key.
def read_leaf(text, at):
    first = byte_at(text, at)
    if first == MARK:
        inner, end = read_marked(text, at)
        return (TEXT_RANK, inner), end
    if first == MINUS or is_digit(first):
        number, end = read_number(text, at, -BIGGEST, BIGGEST)
        return (NUMBER_RANK, number), end
    for rank, word in enumerate(("null", "false", "true")):
        if starts(text, at, word):
            return (rank, 0), at + len(word)
    raise WrongText()
