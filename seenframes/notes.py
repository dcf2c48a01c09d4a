"""Notes: frames, each with those watchers that saw it."""

from seenframes.checks import is_index
from seenframes.errors import BadIndex, BadSight, NoChange, TooMany
from seenframes.frames import History, check_frame
from seenframes.names import ascending, hosts_of
from seenframes.trials import Trial


class Notes:
    """What Record and Clues have in common. It is not made itself. The state is the pair of the watchers and the
    tuple of the notes. A class below has the method `blank`, for an object with the same hosts and without notes."""

    # No class below takes more.
    MOST = 9
    LONGEST = 30

    def __init__(self, hosts):
        self.hosts = hosts_of(hosts, self.MOST)
        self.state = (self.hosts, ())

    @property
    def watchers(self):
        """The hosts that watch, ascending."""
        return self.state[0]

    @property
    def history(self):
        """The row of the frames of the notes."""
        frames = [frame for frame, _ in self.state[1]]
        return History(*frames)

    def __len__(self):
        return len(self.state[1])

    def __getitem__(self, at):
        if not is_index(at, len(self.state[1])):
            raise BadIndex(at)
        return self.state[1][at]

    def __iter__(self):
        raise TypeError("notes are not iterated over")

    def note(self, frame, *seen):
        """Adds a note: a frame, and the watchers that saw it."""
        check_frame(self.hosts, frame)
        watchers, notes = self.state
        for at, value in enumerate(seen):
            if value not in watchers or value == frame.sender or value in seen[:at]:
                raise BadSight(value)
        if len(notes) >= self.LONGEST:
            raise TooMany("notes", self.LONGEST)
        self.state = (watchers, (*notes, (frame, ascending(seen))))

    def __iadd__(self, other):
        if not isinstance(other, tuple) or len(other) != 2 or not isinstance(other[1], (list, tuple)):
            raise BadSight(other)
        frame, seen = other
        self.note(frame, *seen)
        return self

    def back(self):
        """Takes the last note back and returns it."""
        watchers, notes = self.state
        if not notes:
            raise NoChange()
        self.state = (watchers, notes[:-1])
        return notes[-1]

    def twin(self):
        """An object of its own with the same watchers and notes."""
        twin = self.blank()
        twin.state = self.state
        return twin

    def __eq__(self, other):
        if not isinstance(other, Notes):
            return False
        if self.__class__.__name__ != other.__class__.__name__:
            return False
        return self.hosts == other.hosts and self.state == other.state

    def trial(self):
        """What a `with` statement takes, behind whose block the notes are as they were."""
        return Trial(self)

    def tried(self, work):
        """What work returns of the notes, which then are as they were."""
        with self.trial() as same:
            return work(same)
