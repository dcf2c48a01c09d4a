"""Whether two trees can be told apart behind a row of frames, or are alike for ever."""

from seenframes.alikes import first_unlike
from seenframes.errors import TooMany, Unlike
from seenframes.frames import History
from seenframes.views import Views, exchanged, frame_of, moves_among, moves_of, outlook_told, played

# The most hosts, and the most frames of a history.
MOST_HOSTS = 5
MOST_FRAMES = 40


def apart(one, other, history):
    """The shortest row of frames that begins with a history, or is a beginning of it, at whose last frame two trees
    show unlike sights; None if they are alike for ever."""
    check_asked(one, other, history)
    at = first_unlike(one, other, history)
    if at is not None:
        return history.upto(at + 1)
    steps = steps_behind(one, other, history)
    frame = first_telling(steps[-1])
    if frame is None:
        return None
    behind = [frame_of(one.hosts, move) for move in [*moves_to(steps), frame]]
    frames = [*history.frames, *behind]
    return History(*frames)


def closed(one, other, history):
    """The ascending tuple of all outlooks that come behind a history, where two trees are alike for ever; None
    where they are not."""
    check_asked(one, other, history)
    if first_unlike(one, other, history) is not None:
        return None
    steps = steps_behind(one, other, history)
    if first_telling(steps[-1]) is not None:
        return None
    return tuple(sorted(set([outlook_told(one.hosts, step[0]) for step in steps])))


def shows_apart(one, other, history, value):
    """Whether any value is a row of frames at whose last frame alone two trees show unlike sights, and which begins
    with a history, or is a beginning of it."""
    if not is_asked(one, other, history) or not isinstance(value, History):
        return False
    if not all([host in one.hosts for host in value.hosts]):
        return False
    if len(value) <= len(history):
        same = history.frames[:len(value)] == value.frames
    else:
        same = history.frames == value.frames[:len(history)]
    return same and first_unlike(one, other, value) == len(value) - 1


def shows_closed(one, other, history, value):
    """Whether any value is a list or tuple of just the outlooks that come, where two trees are alike for ever."""
    if not is_asked(one, other, history) or not isinstance(value, (list, tuple)):
        return False
    outlooks = closed(one, other, history)
    if outlooks is None or len(value) != len(outlooks) or not all([is_outlook(item) for item in value]):
        return False
    return sorted(set(value)) == list(outlooks)


def check_asked(one, other, history):
    """Raises what is wrong with two trees and a history, but for hosts that the history names: it is played then."""
    if one.hosts != other.hosts:
        raise Unlike()
    if len(one.hosts) > MOST_HOSTS:
        raise TooMany("hosts", MOST_HOSTS)
    if len(history) > MOST_FRAMES:
        raise TooMany("frames", MOST_FRAMES)


def is_asked(one, other, history):
    """Whether nothing is wrong with two trees and a history."""
    if one.hosts != other.hosts or len(one.hosts) > MOST_HOSTS or len(history) > MOST_FRAMES:
        return False
    return all([host in one.hosts for host in history.hosts])


def steps_behind(one, other, history):
    """A list of steps, one for each outlook that comes behind a history: the outlook on the one tree and on the other
    one, what is known, the place of the step ahead of it, and the frame between both. It ends with the first step
    whose outlooks are unlike, if there is one. Both trees show the same at the history."""
    views = Views(one)
    others = Views(other)
    known = played(views, moves_of(one.hosts, history))[0]
    steps = [(views.outlook(known), others.outlook(known), known, -1, None)]
    found = {steps[0][0]: True}
    at = 0
    # The steps stand in the order of the rows of frames that lead to them: the shorter row first, of rows of one
    # length the first one in the order of their frames. An outlook that comes again leads to nothing new.
    while at < len(steps) and steps[-1][0] == steps[-1][1]:
        rows = steps_from(views, others, steps[at], at)
        for step in rows:
            is_new = step[0] != step[1] or step[0] not in found
            if is_new and steps[-1][0] == steps[-1][1]:
                found[step[0]] = True
                steps.append(step)
        at = at + 1
    return steps


def steps_from(views, others, step, at):
    """The steps that one frame leads to from another step, in the order of the frames."""
    outlook, _, known, _, _ = step
    rows = []
    for sender, target in moves_among(len(known)):
        # What nobody has seen yet is seen by all others, as a frame to all is.
        sight = views.sight(sender, target, 0) if target < 0 else outlook[target][sender]
        seers = known[sender] | sight
        if seers != known[sender]:
            rows.append((exchanged(outlook, sender, views.row(sender, seers)),
                         exchanged(outlook, sender, others.row(sender, seers)),
                         exchanged(known, sender, seers), at, (sender, target)))
    return rows


def first_telling(step):
    """The first frame, as a pair of places, that is seen by unlike hosts on both trees behind a step; None if there
    is none."""
    one, other, known, _, _ = step
    for sender, target in moves_among(len(known)):
        if target >= 0 and one[target][sender] != other[target][sender]:
            return (sender, target)
    return None


def moves_to(steps):
    """The list of the frames, as pairs of places, that lead to the last one of some steps."""
    moves = []
    step = steps[-1]
    while step[3] >= 0:
        moves.append(step[4])
        step = steps[step[3]]
    return moves[::-1]


def is_outlook(value):
    """Whether any value is a tuple of tuples of tuples of strings."""
    if not isinstance(value, tuple) or not all([isinstance(row, tuple) for row in value]):
        return False
    sights = [sight for row in value for sight in row]
    if not all([isinstance(sight, tuple) for sight in sights]):
        return False
    return all([isinstance(host, str) for sight in sights for host in sight])
