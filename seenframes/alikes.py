"""Whether two webs or trees show the same, and rows of frames which show that they do not."""

from seenframes.errors import BadGround, Unlike
from seenframes.frames import Frame, History
from seenframes.names import rows_in
from seenframes.partings import parts
from seenframes.plays import Play
from seenframes.trees import Tree
from seenframes.webs import Web


class Shown:
    """A row of frames, and a host that sees its last frame on just one of two webs or trees."""

    def __init__(self, history, host):
        self._history = history
        self.host = host

    @property
    def history(self):
        """The row of frames."""
        return self._history

    def __eq__(self, other):
        if not isinstance(other, Shown):
            return False
        return self.history == other.history and self.host == other.host


def alike(one, other):
    """Whether two webs or trees show the same under all rows of frames."""
    check_grounds(one, other)
    return tree_of(one) == tree_of(other)


def first_unlike(one, other, history):
    """The index of the first frame of a row at which two webs or trees show unlike sights; None if there is none."""
    check_grounds(one, other)
    sights = Play(tree_of(one)).play(history)
    others = Play(tree_of(other)).play(history)
    for at in range(len(sights)):
        if sights[at] != others[at]:
            return at
    return None


def show_unlike(one, other):
    """What shows that two webs or trees are unlike; None if they are alike."""
    check_grounds(one, other)
    tree = tree_of(one)
    other_tree = tree_of(other)
    if tree == other_tree:
        return None
    # If all cuts of the one are cuts of the other one, that one has more.
    a, h, b, c = first_lost(tree, other_tree) or first_lost(other_tree, tree)
    return Shown(History(Frame(b, c), Frame(c, b), Frame(a, c)), h)


def shows_unlike(one, other, value):
    """Whether any value shows that two webs or trees are unlike."""
    if one.hosts != other.hosts or not isinstance(value, Shown) or not isinstance(value.history, History):
        return False
    if len(value.history) == 0 or not all([name in one.hosts for name in value.history.hosts]):
        return False
    sights = Play(tree_of(one)).play(value.history)
    others = Play(tree_of(other)).play(value.history)
    return (value.host in sights[-1]) != (value.host in others[-1])


def check_grounds(one, other):
    """Raises what is wrong with any two values as webs or trees with the same hosts."""
    for value in (one, other):
        if not isinstance(value, (Web, Tree)):
            raise BadGround(value)
    if one.hosts != other.hosts:
        raise Unlike()


def tree_of(ground):
    """The tree of a web, or of a tree."""
    return ground.tree if isinstance(ground, Web) else ground


def first_lost(tree, other):
    """Four hosts of which a cut of a tree parts the first two from the last two, and no cut of another tree does;
    None if there are none."""
    for cut in tree.cuts:
        if cut not in other.cuts:
            for a, h in rows_in(cut.near, 2):
                for b, c in rows_in(cut.far, 2):
                    if not parts(other.marks, a, h, b, c):
                        return (a, h, b, c)
    return None
