"""Views: who sees what on a tree, told by places and bits, and the outlooks that can come."""

from seenframes.frames import Frame


class Views:
    """Who sees what on a tree. Hosts are told by their places, and some of them by a number with a bit for each. What
    is known is told by a tuple with the seers of each host."""

    def __init__(self, tree):
        marks = list(tree.marks.values())
        self.basis = tree
        self.hosts = tree.hosts
        self.unlike = [[mark ^ other for other in marks] for mark in marks]
        self.rows = {}

    def sight(self, sender, target, seers):
        """The sight of a frame to a target with these seers."""
        if seers == 0:
            return (1 << len(self.hosts)) - 1 - (1 << sender)
        # The cuts ahead of the target and of all its seers, as one comes from the sender.
        unlike = self.unlike[sender]
        ahead = unlike[target]
        for host in range(len(self.hosts)):
            if (seers >> host) & 1 == 1:
                ahead = ahead & unlike[host]
        sight = 1 << target
        if ahead != 0:
            for host in range(len(self.hosts)):
                if host != sender and ahead & ~unlike[host] != 0:
                    sight = sight | (1 << host)
        return sight

    def row(self, target, seers):
        """The tuple of the sights of frames of each host to a target with these seers, 0 for its own."""
        if (target, seers) not in self.rows:
            self.rows[(target, seers)] = tuple([
                0 if sender == target else self.sight(sender, target, seers) for sender in range(len(self.hosts))])
        return self.rows[(target, seers)]

    def outlook(self, known):
        """The tuple of the rows of all hosts."""
        return tuple([self.row(target, seers) for target, seers in enumerate(known)])


def moves_among(many):
    """The frames among so many hosts as pairs of places, ascending, the target -1 for a frame to all."""
    return [(sender, target) for sender in range(many) for target in range(-1, many) if sender != target]


def frame_of(hosts, move):
    """The frame that two places tell."""
    sender, target = move
    return Frame(hosts[sender], None if target < 0 else hosts[target])


def moves_of(hosts, history):
    """The list of the frames of a row as pairs of places."""
    places = {host: at for at, host in enumerate(hosts)}
    return [(places[frame.sender], -1 if frame.is_to_all else places[frame.target]) for frame in history.frames]


def played(views, moves):
    """What is known behind some frames that are sent one behind the other from the beginning, and their sights."""
    known = [0] * len(views.hosts)
    sights = []
    for sender, target in moves:
        sight = views.sight(sender, target, 0) if target < 0 else views.row(target, known[target])[sender]
        known[sender] = known[sender] | sight
        sights.append(sight)
    return (tuple(known), tuple(sights))


def bits_among(hosts, some):
    """A number with a bit for each of some of the hosts."""
    return sum([1 << at for at, host in enumerate(hosts) if host in some])


def hosts_among(hosts, bits):
    """The tuple of the hosts whose bits these are."""
    return tuple([host for at, host in enumerate(hosts) if (bits >> at) & 1 == 1])


def outlook_told(hosts, outlook):
    """An outlook by the names of the hosts."""
    return tuple([
        tuple([hosts_among(hosts, sight) for sender, sight in enumerate(row) if sender != target])
        for target, row in enumerate(outlook)])


def exchanged(row, at, item):
    """A tuple with another item at a place."""
    return (*row[:at], item, *row[at + 1:])
