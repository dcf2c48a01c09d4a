"""Records: notes of what some watchers saw, and the trees that fit them."""

from seenframes.errors import BadSight, Begun, Unlike
from seenframes.names import ascending
from seenframes.notes import Notes
from seenframes.plays import Play
from seenframes.trees import Tree, all_trees


class Record(Notes):
    """Notes of some hosts, of which some or all watch."""

    MOST = 6
    LONGEST = 20

    def __init__(self, hosts, watchers=None):
        super().__init__(hosts)
        self.state = (watchers_among(self.hosts, watchers), ())

    @classmethod
    def seen_of(cls, tree, history, watchers=None):
        """The record of what some watchers see of a row of frames on a tree."""
        record = cls(tree.hosts, watchers)
        play = Play(tree)
        for frame in history.frames:
            seen = [host for host in play.send(frame) if host in record.watchers]
            record.note(frame, *seen)
        return record

    @property
    def watchers(self):
        """The hosts that watch, ascending."""
        return self.state[0]

    @watchers.setter
    def watchers(self, value):
        """Sets the hosts that watch."""
        self.set_watchers(value)

    def set_watchers(self, watchers):
        """Sets the hosts that watch, of a record without notes."""
        found = watchers_among(self.hosts, watchers)
        if self.state[1]:
            raise Begun()
        self.state = (found, ())

    def fault(self, tree):
        """The index of the first note that a tree does not fit, and there the least watcher; None if it fits."""
        if not isinstance(tree, Tree) or tree.hosts != self.hosts:
            raise Unlike()
        watchers, notes = self.state
        play = Play(tree)
        for at, (frame, seen) in enumerate(notes):
            sight = play.send(frame)
            for watcher in watchers:
                if (watcher in sight) != (watcher in seen):
                    return (at, watcher)
        return None

    def fits(self, tree):
        """Whether a tree fits."""
        return self.fault(tree) is None

    def fitting(self):
        """The trees that fit, in the order of all trees."""
        # What the record notes behind the first request does not count.
        record = self.twin()
        for tree in all_trees(record.hosts):
            if record.fits(tree):
                yield tree

    def blank(self):
        """A record of the same hosts without notes."""
        return Record(self.hosts)


def watchers_among(hosts, value):
    """The ascending tuple of the watchers that any value tells: all hosts, or a list or tuple of some of them."""
    if value is None:
        return hosts
    if not isinstance(value, (list, tuple)) or not all([watcher in hosts for watcher in value]):
        raise BadSight(value)
    watchers = ascending(value)
    if len(watchers) < len(value):
        raise BadSight(value)
    return watchers
