"""Which frame tells most about the trees that fit a record."""

from seenframes.errors import NothingFits
from seenframes.views import Views, bits_among, frame_of, hosts_among, moves_among, moves_of, played


class Next:
    """A frame, the size of its greatest group of trees, and the groups by which watchers would see it."""

    def __init__(self, frame, worst, groups):
        self.frame = frame
        self.worst = worst
        self.groups = groups

    def __eq__(self, other):
        if not isinstance(other, Next):
            return False
        return self.frame == other.frame and self.worst == other.worst and self.groups == other.groups


def next_frame(record):
    """The Next of the first frame whose greatest group is least; None if each frame makes one group alone."""
    outlooks = [outlook_behind(tree, record.history) for tree in record.fitting()]
    if not outlooks:
        raise NothingFits()
    watching = bits_among(record.hosts, record.watchers)
    found = None
    for move in moves_among(len(record.hosts)):
        if move[1] >= 0:
            counts = counts_of([outlook[move[1]][move[0]] & watching for outlook in outlooks])
            worst = sorted(set(list(counts.values())))[-1]
            if worst < len(outlooks) and (found is None or worst < found.worst):
                found = Next(frame_of(record.hosts, move), worst, groups_of(record.hosts, counts))
    return found


def outlook_behind(tree, history):
    """The outlook of a tree behind a history, in bits."""
    views = Views(tree)
    return views.outlook(played(views, moves_of(tree.hosts, history))[0])


def counts_of(items):
    """How often each of some numbers stands in a list."""
    counts = {}
    for item in items:
        counts[item] = counts.get(item, 0) + 1
    return counts


def groups_of(hosts, counts):
    """The ascending tuple of pairs of the hosts whose bits have a count, and this count."""
    groups = {hosts_among(hosts, bits): count for bits, count in counts.items()}
    return tuple([(seen, groups[seen]) for seen in sorted(set(list(groups)))])
