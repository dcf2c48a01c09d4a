"""Plans: which frames to send, one behind the other, until all is known that can be known."""

from seenframes.errors import BadSight, NothingFits, TooMany
from seenframes.frames import Frame, History
from seenframes.later import apart
from seenframes.views import Views, exchanged, frame_of, hosts_among, moves_among, moves_of, played

# The most hosts of a record, and the greatest depth of a plan that is looked at.
MOST_HOSTS = 4
MOST_DEPTH = 20


class Plan:
    """What is done behind a record: a Known or an Ask. It is not made itself."""

    @property
    def depth(self):
        """The most frames that are sent by the plan."""
        return 0


class Known(Plan):
    """The trees that are left, of which no two can be told apart."""

    def __init__(self, trees):
        self.trees = trees

    @property
    def depth(self):
        """No frame is sent."""
        return 0

    def __eq__(self, other):
        if not isinstance(other, Known):
            return False
        return self.trees == other.trees


class Ask(Plan):
    """A frame that is sent, and for each sight that it can have the plan behind it."""

    def __init__(self, frame, cases):
        self.frame = frame
        self.cases = cases
        # Papers never change: the depth is worked out once, and not again for each plan that has this one in it.
        self._depth = depth_over(cases)

    @property
    def depth(self):
        """The most frames that are sent by the plan."""
        return self._depth

    def __eq__(self, other):
        if not isinstance(other, Ask):
            return False
        return self.frame == other.frame and self.cases == other.cases


class Search:
    """What is looked up on the way to a plan: the fitting trees, their views, for each tree the place of the first
    one that is alike for ever behind the record, the frames, and the least depths that were found so far."""

    def __init__(self, hosts, trees, history):
        self.hosts = hosts
        self.trees = trees
        self.views = [Views(tree) for tree in trees]
        self.kinds = kinds_of(trees, history)
        self.moves = moves_among(len(self.hosts))
        self.depths = {}


def depth_over(cases):
    """1 more than the greatest depth of the plans in any value as cases."""
    most = 0
    if isinstance(cases, (list, tuple)):
        for case in cases:
            if isinstance(case, tuple) and len(case) == 2 and isinstance(case[1], Plan):
                most = case[1].depth if case[1].depth > most else most
    return most + 1


def kinds_of(trees, history):
    """For each of some trees the place of the first one from which it can never be told apart behind a history."""
    kinds = []
    for at, tree in enumerate(trees):
        same = [place for place, other in enumerate(trees[:at]) if apart(other, tree, history) is None]
        kinds.append(same[0] if same else at)
    return kinds


def least_plan(record):
    """A plan with the least depth for a record; None if there is none."""
    check_record(record)
    trees = list(record.fitting())
    if not trees:
        raise NothingFits()
    search = Search(record.hosts, trees, record.history)
    left = tuple(range(len(trees)))
    known = known_behind(search, record.history)
    if least_depth(search, left, known) is None:
        return None
    return plan_behind(search, left, known)


def check_record(record):
    """Raises what is wrong with a record that a plan is asked for."""
    if len(record.hosts) > MOST_HOSTS:
        raise TooMany("hosts", MOST_HOSTS)
    if record.watchers != record.hosts:
        raise BadSight(record.watchers)


def known_behind(search, history):
    """What is known behind a row of frames that all trees show alike."""
    return played(search.views[0], moves_of(search.hosts, history))[0]


def is_settled(search, left):
    """Whether no two of the trees that are left can be told apart behind the record."""
    return len(set([search.kinds[at] for at in left])) == 1


def outlooks_of(search, left, known):
    """A list of pairs of the trees that are left and their outlooks."""
    return [(at, search.views[at].outlook(known)) for at in left]


def cases_of(outlooks, known, move):
    """For each sight of a frame on some trees with outlooks, in bits, the tuple of those that show it."""
    sender, target = move
    if target < 0:
        return {(1 << len(known)) - 1 - (1 << sender): tuple([at for at, _ in outlooks])}
    groups = {}
    for at, outlook in outlooks:
        sight = outlook[target][sender]
        groups[sight] = (*groups.get(sight, ()), at)
    return groups


def known_then(known, move, sight):
    """What is known behind a frame with this sight."""
    return exchanged(known, move[0], known[move[0]] | sight)


def least_depth(search, left, known):
    """The least depth of a plan for the trees that are left; None if there is none."""
    if is_settled(search, left):
        return 0
    outlooks = outlooks_of(search, left, known)
    key = tuple(outlooks)
    if key not in search.depths:
        least = None
        for move in search.moves:
            depth = depth_with(search, outlooks, known, move)
            if depth is not None and (least is None or depth < least):
                least = depth
        search.depths[key] = least
    return search.depths[key]


def depth_with(search, outlooks, known, move):
    """The least depth of a plan that begins with a frame; None if there is none, or if the frame changes nothing."""
    cases = cases_of(outlooks, known, move)
    if len(cases) == 1 and is_idle(search, outlooks, known, move, list(cases)[0]):
        return None
    most = 0
    for sight, some in cases.items():
        depth = least_depth(search, some, known_then(known, move, sight))
        if depth is None:
            return None
        most = depth if depth > most else most
    return most + 1


def is_idle(search, outlooks, known, move, sight):
    """Whether behind a frame with this sight the outlooks of some trees are the same as ahead of it."""
    sender = move[0]
    seers = known[sender] | sight
    if seers == known[sender]:
        return True
    return all([search.views[at].row(sender, seers) == outlook[sender] for at, outlook in outlooks])


def plan_behind(search, left, known):
    """A plan with the least depth for the trees that are left."""
    depth = least_depth(search, left, known)
    if depth == 0:
        return Known(tuple([search.trees[at] for at in left]))
    outlooks = outlooks_of(search, left, known)
    move = [move for move in search.moves if depth_with(search, outlooks, known, move) == depth][0]
    cases = cases_of(outlooks, known, move)
    plans = {hosts_among(search.hosts, sight): plan_behind(search, some, known_then(known, move, sight))
             for sight, some in cases.items()}
    return Ask(frame_of(search.hosts, move), tuple([(sight, plans[sight]) for sight in sorted(set(list(plans)))]))


def shows_plan(record, value):
    """Whether any value is a plan for a record, at most 20 deep."""
    check_record(record)
    trees = list(record.fitting())
    if not trees:
        return False
    search = Search(record.hosts, trees, record.history)
    left = tuple(range(len(trees)))
    return is_plan(search, left, known_behind(search, record.history), value, MOST_DEPTH)


def is_plan(search, left, known, value, most):
    """Whether any value is a plan for the trees that are left, at most so deep."""
    if isinstance(value, Known):
        trees = tuple([search.trees[at] for at in left])
        return value.trees == trees and is_settled(search, left)
    if not isinstance(value, Ask) or most == 0 or not is_frame_of(search.hosts, value.frame):
        return False
    move = moves_of(search.hosts, History(value.frame))[0]
    cases = cases_of(outlooks_of(search, left, known), known, move)
    sights = {hosts_among(search.hosts, sight): sight for sight in cases}
    if not are_cases(value.cases, sorted(set(list(sights)))):
        return False
    return all([
        is_plan(search, cases[sights[seen]], known_then(known, move, sights[seen]), plan, most - 1)
        for seen, plan in value.cases])


def is_frame_of(hosts, value):
    """Whether any value is a frame of one of the hosts, to another one or to all."""
    return isinstance(value, Frame) and value.sender in hosts and (value.is_to_all or value.target in hosts)


def are_cases(value, sights):
    """Whether any value is a tuple of pairs with just these sights, in their order."""
    if not isinstance(value, tuple) or not all([isinstance(case, tuple) and len(case) == 2 for case in value]):
        return False
    return [case[0] for case in value] == sights
