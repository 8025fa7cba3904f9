"""What stands round the place that the stream has come to, and which token can come there."""

from treestream.errors import CannotCome
from treestream.marks import LIST, LIST_END, NAME, RECORD, RECORD_END

MOST_ENTRIES = 40
DEEPEST = 6
MOST_ITEMS = 10
MOST_FIELDS = 8


# A list or record that has begun and not ended: how many trees have begun in it, and of a
# record the last name, and whether that name's tree is still to come.
class Frame:
    def __init__(self, kind):
        self.kind = kind
        self.begun = 0
        self.last_name = None
        self.awaits_tree = False

    def twin(self):
        other = Frame(self.kind)
        other.begun = self.begun
        other.last_name = self.last_name
        other.awaits_tree = self.awaits_tree
        return other

    def takes_tree(self):
        if self.kind == LIST:
            return self.begun < MOST_ITEMS
        return self.awaits_tree

    def takes_name(self, name):
        if self.kind == LIST or self.awaits_tree or self.begun == MOST_FIELDS:
            return False
        return self.last_name is None or self.last_name < name

    def takes_end(self, kind):
        if self.kind == LIST:
            return kind == LIST_END
        return kind == RECORD_END and not self.awaits_tree

    def begin_within(self):
        self.begun += 1
        self.awaits_tree = False

    def begin_field(self, name):
        self.last_name = name
        self.awaits_tree = True

    # The step to the tree that has begun last: a number, or a name.
    def way(self):
        if self.kind == LIST:
            return self.begun - 1
        return self.last_name


class Shape:
    def __init__(self):
        self.frames = []
        self.most_frames = 0
        self.entries = 0

    def twin(self):
        other = Shape()
        other.frames = [frame.twin() for frame in self.frames]
        other.most_frames = self.most_frames
        other.entries = self.entries
        return other

    def is_whole(self):
        return self.entries > 0 and len(self.frames) == 0

    # Whether the bounds leave room for one more tree here.
    def has_room(self):
        return self.entries < MOST_ENTRIES and len(self.frames) < DEEPEST

    def awaits_name(self):
        return len(self.frames) > 0 and self.frames[-1].kind == RECORD and not self.frames[-1].awaits_tree

    # In a text, whether the next item or field stands behind another one.
    def awaits_comma(self):
        return len(self.frames) > 0 and self.frames[-1].begun > 0 and not self.frames[-1].awaits_tree

    # A name can't come where the tree that it needs behind it couldn't.
    def can_come(self, token):
        if len(self.frames) == 0:
            return self.entries == 0 and token.begins_tree()
        top = self.frames[-1]
        if token.kind == NAME:
            return self.has_room() and top.takes_name(token.name)
        if token.begins_tree():
            return self.has_room() and top.takes_tree()
        return top.takes_end(token.kind)

    # Gives the place of the tree that begins with the token, None if none does.
    def come(self, token):
        if not self.can_come(token):
            raise CannotCome()
        if token.begins_tree():
            return self.begin_tree(token.kind)
        if token.kind == NAME:
            self.frames[-1].begin_field(token.name)
        else:
            self.frames.pop()
        return None

    def begin_tree(self, kind):
        self.entries += 1
        if len(self.frames) > 0:
            self.frames[-1].begin_within()
        place = [frame.way() for frame in self.frames]
        if kind in (LIST, RECORD):
            self.frames.append(Frame(kind))
            self.most_frames = max(self.most_frames, len(self.frames))
        return place
