"""What rows of frames do on all trees of any size."""

from seenframes.checks import four_in
from seenframes.errors import TooMany
from seenframes.frames import Frame
from seenframes.names import ascending
from seenframes.partings import answer_marked
from seenframes.plays import Play
from seenframes.trees import Tree, all_trees
from seenframes.views import Views, frame_of, hosts_among, moves_among, moves_of, played

# The most frames of a row, and the most hosts that are named in two rows, and in one that is to tell an answer.
MOST_FRAMES = 12
MOST_NAMED = 4
MOST_TELLING = 6
LETTERS = "abcdefghijklmnopqrstuvwxyz"


class Difference:
    """A tree, a frame, and a host that sees the frame behind just one of two rows."""

    def __init__(self, tree, frame, host):
        self._tree = tree
        self.frame = frame
        self.host = host

    @property
    def tree(self):
        """The tree."""
        return self._tree

    def __eq__(self, other):
        if not isinstance(other, Difference):
            return False
        return self.tree == other.tree and self.frame == other.frame and self.host == other.host


def left_alike(one, other):
    """Whether two rows of frames leave alike on all trees of any size."""
    views = views_of(one, other)
    return are_alike(views, one, other)


def difference(one, other):
    """The Difference on the first tree on which two rows do not leave alike; None if there is none."""
    for views in views_of(one, other):
        moves = unlike_moves(views, one, other)
        if moves:
            (sender, target), sights = moves[0]
            hosts = hosts_among(views.hosts, sights)
            return Difference(views.basis, frame_of(views.hosts, (sender, target)), hosts[0])
    return None


def shows_difference(one, other, value):
    """Whether any value is a Difference on some tree that has the named hosts."""
    named = named_in(one, other)
    if not isinstance(value, Difference) or not isinstance(value.tree, Tree):
        return False
    hosts = value.tree.hosts
    if not all([host in hosts for host in named]) or not is_frame_between(hosts, value.frame):
        return False
    plays = [Play(value.tree), Play(value.tree)]
    plays[0].play(one)
    plays[1].play(other)
    return (value.host in plays[0].would(value.frame)) != (value.host in plays[1].would(value.frame))


def idle(history):
    """The ascending tuple of the indexes of the frames of a row without which it leaves alike."""
    views = views_of(history, history)
    return tuple([k for k in range(len(history)) if are_alike(views, history, history.without(k))])


def thinned(history):
    """The row of frames without idle ones: as long as there are some, the last one is left out."""
    # The hosts that are named in the row at first are enough for each row that is left of it.
    views = views_of(history, history)
    left = history
    at = last_idle(views, left)
    while at is not None:
        left = left.without(at)
        at = last_idle(views, left)
    return left


def exchangeable(history, k):
    """Whether a row of frames and the same with the frames k and k + 1 exchanged leave alike."""
    other = history.swapped(k)
    return left_alike(history, other)


def untold(history, four):
    """The first two trees of the named hosts that show the same at a row of frames, and have unlike answers for four
    of them; None if there are none."""
    check_frames(history)
    if len(history.hosts) > MOST_TELLING:
        raise TooMany("named", MOST_TELLING)
    hosts = four_in(history.hosts, four)
    groups = {}
    for tree in all_trees(history.hosts):
        sights = played(Views(tree), moves_of(history.hosts, history))[1]
        groups[sights] = [*groups.get(sights, []), tree]
    # The groups stand in the order of their first trees. If no tree of a group is unlike its first one, no two are.
    for trees in groups.values():
        answer = answer_marked(trees[0].marks, hosts)
        for tree in trees:
            if answer_marked(tree.marks, hosts) != answer:
                return (trees[0], tree)
    return None


def check_frames(history):
    """Raises what is wrong with a row of frames."""
    if len(history) > MOST_FRAMES:
        raise TooMany("frames", MOST_FRAMES)


def named_in(one, other):
    """The ascending tuple of the hosts that are named in two rows, which are not too many."""
    check_frames(one)
    check_frames(other)
    named = ascending([*one.hosts, *other.hosts])
    if len(named) > MOST_NAMED:
        raise TooMany("named", MOST_NAMED)
    return named


def views_of(one, other):
    """A list of the views of the trees on which two rows are looked at, in the order of all trees."""
    named = named_in(one, other)
    others = [letter for letter in LETTERS if letter not in named]
    hosts = (*named, *others[:2])
    return [Views(tree) for tree in all_trees(hosts)]


def unlike_moves(views, one, other):
    """A list of pairs of each frame that is not seen by the same hosts behind two rows, as places, and of those that
    see it behind just one, in bits."""
    known = played(views, moves_of(views.hosts, one))[0]
    others = played(views, moves_of(views.hosts, other))[0]
    found = []
    if known != others:
        for sender, target in moves_among(len(known)):
            if target >= 0 and known[target] != others[target]:
                sights = views.row(target, known[target])[sender] ^ views.row(target, others[target])[sender]
                if sights != 0:
                    found.append(((sender, target), sights))
    return found


def are_alike(views, one, other):
    """Whether two rows leave alike on all trees of some views."""
    for view in views:
        if unlike_moves(view, one, other):
            return False
    return True


def last_idle(views, history):
    """The index of the last idle frame of a row; None if there is none."""
    for k in range(len(history) - 1, -1, -1):
        if are_alike(views, history, history.without(k)):
            return k
    return None


def is_frame_between(hosts, value):
    """Whether any value is a frame of one of the hosts to another one."""
    return isinstance(value, Frame) and value.sender in hosts and value.target in hosts
