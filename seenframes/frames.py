"""Frames, and rows of frames."""

from seenframes.checks import check_host, is_index, is_whole
from seenframes.errors import BadFrame, BadHistory, BadIndex, BadText, TooMany
from seenframes.names import ascending, is_name


class Frame:
    """A frame of a sender to a target, or to all where the target is None."""

    def __init__(self, sender, target=None):
        if not is_name(sender):
            raise BadFrame("sender")
        if target is not None and (not is_name(target) or target == sender):
            raise BadFrame("target")
        self.sender = sender
        self.target = target

    @property
    def is_to_all(self):
        """Whether the frame is to all."""
        return self.target is None

    def __eq__(self, other):
        if not isinstance(other, Frame):
            return False
        return frame_key(self) == frame_key(other)

    def __lt__(self, other):
        if not isinstance(other, Frame):
            return NotImplemented
        return frame_key(self) < frame_key(other)

    def __le__(self, other):
        if not isinstance(other, Frame):
            return NotImplemented
        return frame_key(self) <= frame_key(other)

    def __gt__(self, other):
        if not isinstance(other, Frame):
            return NotImplemented
        return frame_key(self) > frame_key(other)

    def __ge__(self, other):
        if not isinstance(other, Frame):
            return NotImplemented
        return frame_key(self) >= frame_key(other)

    def __str__(self):
        if self.target is None:
            return f"{self.sender} *"
        return f"{self.sender} {self.target}"

    @classmethod
    def read(cls, text):
        """The frame with this text."""
        words = words_in(text)
        sender, target = hosts_told(words, 0, "")
        if len(words) > 2:
            raise BadText(0, 2)
        return cls(sender, target)


def frame_key(frame):
    """What frames are ordered by. No name is empty: so a frame to all comes first of its sender."""
    return (frame.sender, "" if frame.target is None else frame.target)


def check_frame(hosts, value):
    """Raises what is wrong with any value as a frame of one of the hosts, to another one or to all."""
    if not isinstance(value, Frame):
        raise BadFrame("frame")
    check_host(hosts, value.sender)
    if value.target is not None:
        check_host(hosts, value.target)


def words_in(text):
    """The words of a text of one line."""
    if not isinstance(text, str):
        raise BadText(0, 0)
    return text.split(" ")


def hosts_told(words, at, end):
    """The sender and the target told by two words from an index on, the second one without its end."""
    if at >= len(words) or not is_name(words[at]):
        raise BadText(0, at)
    if at + 1 >= len(words):
        raise BadText(0, at + 1)
    target = words[at + 1].removesuffix(end)
    if target == "*":
        return (words[at], None)
    if not is_name(target) or target == words[at]:
        raise BadText(0, at + 1)
    return (words[at], target)


def frames_told(words):
    """The list of the frames that the words of a history tell."""
    if words == ["-"]:
        return []
    if words[0] == "-":
        raise BadText(0, 1)
    frames = []
    at = 0
    follows = True
    while follows:
        sender, target = hosts_told(words, at, ",")
        frames.append(Frame(sender, target))
        follows = words[at + 1].endswith(",")
        at = at + 2
    if at < len(words):
        raise BadText(0, at)
    return frames


def frames_among(hosts, with_all=False):
    """All frames from one of the hosts to another one, ascending; with_all: those to all, too."""
    for sender in hosts:
        if with_all:
            yield Frame(sender)
        for target in hosts:
            if target != sender:
                yield Frame(sender, target)


class History:
    """A row of frames."""

    MOST = 60

    def __init__(self, *frames):
        for at, frame in enumerate(frames):
            if not isinstance(frame, Frame):
                raise BadHistory(at)
        if len(frames) > self.MOST:
            raise TooMany("frames", self.MOST)
        targets = [frame.target for frame in frames if frame.target is not None]
        self._frames = frames
        self.hosts = ascending([frame.sender for frame in frames] + targets)

    @property
    def frames(self):
        """The tuple of the frames."""
        return self._frames

    @classmethod
    def of(cls, frames):
        """The history of a list or tuple of frames."""
        if not isinstance(frames, (list, tuple)):
            raise BadHistory(None)
        return History(*frames)

    @classmethod
    def read(cls, text):
        """The history with this text."""
        frames = frames_told(words_in(text))
        return History(*frames)

    def __len__(self):
        return len(self._frames)

    def __getitem__(self, at):
        if not is_index(at, len(self._frames)):
            raise BadIndex(at)
        return self._frames[at]

    def __iter__(self):
        return iter(self._frames)

    def __contains__(self, x):
        return isinstance(x, Frame) and x in self._frames

    def __eq__(self, other):
        if not isinstance(other, History):
            return False
        return self._frames == other.frames

    def __add__(self, other):
        if not isinstance(other, (Frame, History)):
            return NotImplemented
        behind = (other,) if isinstance(other, Frame) else other.frames
        frames = self._frames + behind
        return History(*frames)

    def __mul__(self, other):
        if not is_whole(other) or other < 0:
            return NotImplemented
        if len(self._frames) * other > self.MOST:
            raise TooMany("frames", self.MOST)
        # Python repeats not even an empty tuple as often as an integer can tell.
        times = other if self._frames else 0
        frames = self._frames * times
        return History(*frames)

    def without(self, k):
        """The history without the frame k."""
        if not is_index(k, len(self._frames)):
            raise BadIndex(k)
        frames = self._frames[:k] + self._frames[k + 1:]
        return History(*frames)

    def swapped(self, k):
        """The history with the frames k and k + 1 exchanged."""
        if not is_index(k, len(self._frames) - 1):
            raise BadIndex(k)
        frames = list(self._frames)
        frames[k] = self._frames[k + 1]
        frames[k + 1] = self._frames[k]
        return History(*frames)

    def upto(self, k):
        """The first k frames."""
        if not is_index(k, len(self._frames) + 1):
            raise BadIndex(k)
        frames = self._frames[:k]
        return History(*frames)

    def __str__(self):
        if not self._frames:
            return "-"
        return ", ".join([str(frame) for frame in self._frames])
