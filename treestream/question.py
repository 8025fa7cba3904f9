"""Questions, and how their texts are read."""

from treestream.bytetext import behind, byte_at, starts
from treestream.conditions import BeforeLeaf, BehindLeaf, BothOf, EitherOf, Negation, SameAs
from treestream.errors import WrongText
from treestream.leaves import is_small_letter, read_leaf, read_name, read_number
from treestream.steps import EachStep, FieldStep, ItemsStep

MOST_NODES = 30
HIGHEST_ITEM = 100
MOST_FIRST = 60

TELL = 0
COUNT = 1
SUM = 2

# How far a chain has come: steps stand ahead of "..", and "where" behind both.
AT_STEPS = 0
BEHIND_DEEP = 1
BEHIND_WHERE = 2


# Of a chain its links "." are left out: they change nothing.
class Question:
    def __init__(self):
        self.fold = TELL
        self.tried = False
        self.limit = None
        self.steps = []
        self.deep = False
        self.condition = None


# Every call of a method within itself adds a node first, so that the bound of nodes
# keeps the calls within one another few, however deep a refused text nests.
class QuestionReader:
    def __init__(self, text):
        self.text = text
        self.at = 0
        self.nodes = 0
        self.stage = AT_STEPS
        self.question = Question()

    def sees(self, word):
        return starts(self.text, self.at, word)

    def need(self, word):
        self.at = behind(self.text, self.at, word)

    # Goes behind the word, if it stands here.
    def skips(self, word):
        found = self.sees(word)
        if found:
            self.need(word)
        return found

    def add_node(self):
        self.nodes += 1
        if self.nodes > MOST_NODES:
            raise WrongText()

    def number_up_to(self, high):
        number, end = read_number(self.text, self.at, 0, high)
        self.at = end
        return number

    def read_whole(self):
        if self.skips("count("):
            self.question.fold = COUNT
        elif self.skips("sum("):
            self.question.fold = SUM
        if self.question.fold == TELL:
            self.read_told()
        else:
            self.add_node()
            self.read_told()
            self.need(")")
        if self.at != len(self.text):
            raise WrongText()
        return self.question

    # Reads the E of a question.
    def read_told(self):
        if self.skips("try("):
            self.add_node()
            self.question.tried = True
            self.read_chain()
            self.need(")")
        elif self.skips("first("):
            self.add_node()
            self.question.limit = self.number_up_to(MOST_FIRST)
            self.need(", ")
            self.read_chain()
            self.need(")")
        else:
            self.read_chain()

    def read_chain(self):
        self.add_node()
        if self.skips("("):
            self.read_chain()
            self.need(" | ")
            self.read_chain()
            self.need(")")
        else:
            self.read_link()

    def read_link(self):
        if self.skips("where("):
            self.pass_stage(BEHIND_DEEP, BEHIND_WHERE)
            self.question.condition = self.read_condition()
            self.need(")")
        elif self.skips(".."):
            self.pass_stage(AT_STEPS, BEHIND_DEEP)
            self.question.deep = True
        elif self.skips(".["):
            self.add_step(self.read_brackets())
        else:
            self.need(".")
            if is_small_letter(byte_at(self.text, self.at)):
                name, end = read_name(self.text, self.at)
                self.at = end
                self.add_step(FieldStep(name))

    # A link may stand at the latest stage and those before it.
    def pass_stage(self, latest, following):
        if self.stage > latest:
            raise WrongText()
        self.stage = following

    def add_step(self, step):
        self.pass_stage(AT_STEPS, AT_STEPS)
        self.question.steps.append(step)

    # Reads what stands behind ".[".
    def read_brackets(self):
        if self.skips("]"):
            return EachStep()
        low = 0
        if not self.sees(":"):
            low = self.number_up_to(HIGHEST_ITEM)
            if self.skips("]"):
                return ItemsStep(low, low + 1)
        self.need(":")
        high = None
        if not self.sees("]"):
            high = self.number_up_to(HIGHEST_ITEM)
        self.need("]")
        return ItemsStep(low, high)

    def read_condition(self):
        self.add_node()
        if self.skips("not("):
            part = self.read_condition()
            self.need(")")
            return Negation(part)
        self.need("(")
        if self.sees("(") or self.sees("not("):
            condition = self.read_pair()
        else:
            condition = self.read_comparison()
        self.need(")")
        return condition

    def read_pair(self):
        one = self.read_condition()
        if self.skips(" and "):
            return BothOf(one, self.read_condition())
        self.need(" or ")
        return EitherOf(one, self.read_condition())

    # The "." and the leaf are a node each.
    def read_comparison(self):
        self.add_node()
        self.add_node()
        if self.skips(". = "):
            return SameAs(self.read_key())
        if self.skips(". < "):
            return BeforeLeaf(self.read_key())
        leaf = self.read_key()
        self.need(" < .")
        return BehindLeaf(leaf)

    def read_key(self):
        key, end = read_leaf(self.text, self.at)
        self.at = end
        return key


def question_of(text):
    return QuestionReader(text).read_whole()
