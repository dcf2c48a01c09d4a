"""Plays: who sees what, by the partings of a tree or of any table."""

from seenframes.errors import BadGround
from seenframes.names import ascending
from seenframes.players import Player
from seenframes.tables import Table, is_beside
from seenframes.trees import Tree


class Play(Player):
    """Who sees what by the partings that hold. Known are the seers of each host that has sent."""

    def __init__(self, ground):
        if not isinstance(ground, (Tree, Table)):
            raise BadGround(ground)
        super().__init__(ground.twin() if isinstance(ground, Table) else ground)

    def blank(self):
        """A play by the same partings without frames."""
        return Play(self.basis)

    def carry(self, known, sender, target):
        """The sight of a frame, and what is known behind it."""
        sight = sight_by(self.basis, known.get(target, ()), sender, target)
        older = known.get(sender, ())
        return (sight, {**known, sender: ascending([*older, *sight])})


def sight_by(ground, seers, sender, target):
    """The sight of a frame by the partings of a tree or table, from the seers of its target ahead of it."""
    others = [host for host in ground.hosts if host != sender]
    # None is never a sender, so it has no seers: a frame to all is seen by all others, too.
    if not seers:
        return tuple(others)
    if isinstance(ground, Tree):
        marks = ground.marks
        ahead = cuts_ahead(marks, [*seers, target], sender)
        return tuple([host for host in others if host == target or ahead & ~(marks[sender] ^ marks[host]) != 0])
    pairs = [ascending([target, seer]) for seer in seers]
    return tuple([host for host in others
                  if host == target or all([is_beside(ground, host, sender, pair) for pair in pairs])])


def cuts_ahead(marks, hosts, sender):
    """A number with a bit for each cut of a tree between a sender and all of some hosts."""
    # The cuts between the sender and a target lie in one another. Those ahead of a seer of the target, as one
    # comes from the sender, are the first ones: so a host shares with the sender the sides of some cuts ahead of
    # each seer exactly if it does at one that is ahead of all.
    ahead = -1
    for host in hosts:
        ahead = ahead & (marks[sender] ^ marks[host])
    return ahead
