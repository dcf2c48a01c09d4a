"""Players: hosts, and the frames that were sent among them so far."""

from seenframes.checks import check_host
from seenframes.errors import NoChange
from seenframes.frames import check_frame
from seenframes.names import ascending
from seenframes.trials import Trial


class Player:
    """What Network and Play have in common. It is not made itself. The state has a step for each frame that was
    sent: the frame, its sight, and what is known behind it. A class below has the method `carry`, which works both
    out of what is known ahead of a frame, and the method `blank`, for a player without frames."""

    def __init__(self, basis):
        self.basis = basis
        self.hosts = basis.hosts
        self.state = []

    @property
    def frames(self):
        """The tuple of the frames that were sent."""
        return tuple([step[0] for step in self.state])

    @property
    def sights(self):
        """The tuple of their sights."""
        return tuple([step[1] for step in self.state])

    def __len__(self):
        return len(self.state)

    def send(self, frame):
        """Sends a frame and returns its sight."""
        check_frame(self.hosts, frame)
        sight, known = self.carry(self.known_now(), frame.sender, frame.target)
        self.state.append((frame, sight, known))
        return sight

    def __iadd__(self, other):
        self.send(other)
        return self

    def would(self, frame):
        """The sight that a frame would have now."""
        check_frame(self.hosts, frame)
        return self.sight_now(frame.sender, frame.target)

    def play(self, history):
        """Sends the frames of a history and returns the tuple of their sights."""
        for name in history.hosts:
            check_host(self.hosts, name)
        return tuple([self.send(frame) for frame in history.frames])

    def seers(self, host):
        """The hosts that have seen any frame of a host, ascending."""
        check_host(self.hosts, host)
        return ascending([seer for frame, sight, _ in self.state if frame.sender == host for seer in sight])

    def outlook(self):
        """For each host, in order, the sights that frames of each other host, in order, to it would have now."""
        return tuple([
            tuple([self.sight_now(sender, target) for sender in self.hosts if sender != target])
            for target in self.hosts])

    def loose(self, host):
        """Pairs of other hosts, ascending, of which the second one would see a frame of the first one to the host."""
        check_host(self.hosts, host)
        others = [other for other in self.hosts if other != host]
        sights = [self.sight_now(sender, host) for sender in others]
        for sender, sight in zip(others, sights):
            for seer in sight:
                if seer > sender and seer != host:
                    yield (sender, seer)

    def back(self):
        """Takes the last frame back and returns it."""
        if not self.state:
            raise NoChange()
        return self.state.pop()[0]

    def reset(self):
        """Takes all frames back."""
        self.state = []

    def twin(self):
        """A player of its own with the same frames."""
        twin = self.blank()
        twin.state = list(self.state)
        return twin

    def __eq__(self, other):
        # A Network stands on a Web, a Play on a Tree or a Table: equal ones are of the same class.
        if not isinstance(other, Player):
            return False
        return self.basis == other.basis and self.frames == other.frames

    def trial(self):
        """What a `with` statement takes, behind whose block the player is as it was."""
        return Trial(self)

    def tried(self, work):
        """What work returns of the player, which then is as it was."""
        with self.trial() as same:
            return work(same)

    def known_now(self):
        """What is known now: a dict by hosts, of which each step has a new one."""
        return self.state[-1][2] if self.state else {}

    def sight_now(self, sender, target):
        """The sight that a frame of a host to another one, or to None, would have now."""
        return self.carry(self.known_now(), sender, target)[0]
