"""What several tests use: any values, exact comparisons, and drawn trees and webs."""

import random
import time
import unittest

from seenframes import errors
from seenframes.alikes import Shown
from seenframes.clues import Clues, Strike
from seenframes.cuts import Cut
from seenframes.desk import Desk
from seenframes.everytree import Difference
from seenframes.frames import Frame, History
from seenframes.networks import Network
from seenframes.nexts import Next
from seenframes.partings import Parting
from seenframes.plans import Ask, Known
from seenframes.plays import Play
from seenframes.records import Record
from seenframes.rounds import Rounds
from seenframes.sure import Open, Sure
from seenframes.tables import Table
from seenframes.trees import Tree
from seenframes.webs import Web


def any_values():
    """Values of every kind that can be passed, of which none is meant anywhere by chance."""
    deep = "a"
    for _ in range(8):
        deep = [deep]
    tree = Tree(["zw", "zx", "zy", "zz"], [Cut(["zw", "zx"], ["zy", "zz"])])
    return [
        None, True, False, 0, 1, 2, -1, 99, 100, 10 ** 59, -(10 ** 59),
        "", " ", "A", "a1", "a b", "abcdefghi", "a\n", "-", "*", "~" * 5000, "a" * 5000, "zz",
        (), ("zz",), ("zz", 1), (None, None), (1, True), [], ["zz"], [None], [[]], deep, [0] * 3000,
        {}, {"zz": 0}, {0: "zz"}, {None: []}, ([], {}),
        Frame("zz"), Frame("zy", "zz"), History(), History(Frame("zz")),
        Cut(["zw", "zx"], ["zy", "zz"]), Parting(["zw", "zx"], ["zy", "zz"]),
        errors.BadHosts(None), errors.Unlike(),
        tree, Web.of_tree(tree), Table.of_tree(tree), Network(tree), Play(tree), Record(tree.hosts),
        Rounds(tree, History()), Shown(History(), "zz"), Sure(tree.hosts, None, ()), Open(tree.hosts, (tree, tree)),
        Clues(tree.hosts), Strike(tree.hosts, None, ("barred", 0)), Next(Frame("zz"), 1, ()), Known((tree,)),
        Ask(Frame("zz"), (((), Known(())),)), Difference(tree, Frame("zw", "zx"), "zy"), Desk(),
    ]


def no_grounds(*kinds):
    """Those of any values that are of none of these kinds."""
    return [value for value in any_values() if not isinstance(value, kinds)]


def no_integers():
    """Those of any values that are no integers."""
    return [value for value in any_values() if type(value) is not int]


def same(one, other):
    """Whether two values are equal, and of the same kinds throughout."""
    if type(one) is not type(other):
        return False
    if isinstance(one, (list, tuple)):
        return len(one) == len(other) and all(same(a, b) for a, b in zip(one, other))
    if isinstance(one, dict):
        return same(list(one.items()), list(other.items()))
    if isinstance(one, Exception):
        return one is other
    return one == other


class Case(unittest.TestCase):
    """A test with checks of kinds and of errors."""

    def same(self, one, other):
        """Equal, and of the same kinds throughout."""
        self.assertTrue(same(one, other), f"{one!r} is not {other!r}")

    def raises(self, error, call, *told, **named):
        """The call raises just this error, of just this class, with just these values in its attributes."""
        with self.assertRaises(errors.SeenError) as caught:
            call(*told, **named)
        self.same_error(caught.exception, error)

    def same_error(self, one, other):
        """Of just the same class, with the same values in the same attributes."""
        self.assertIs(type(one), type(other), f"{one!r} {vars(one)!r}")
        self.assertEqual(set(vars(one)), set(vars(other)))
        for name, value in vars(one).items():
            self.same(value, getattr(other, name))

    def no_order(self, one):
        """The value stands in no order with a value of another kind."""
        for sign in (lambda a, b: a < b, lambda a, b: a <= b, lambda a, b: a > b, lambda a, b: a >= b):
            for other in (None, 1, "a", (), []):
                with self.assertRaises(TypeError):
                    sign(one, other)

    def soon(self, call, *told):
        """What the call returns, which it does within two seconds."""
        start = time.perf_counter()
        answer = call(*told)
        self.assertLess(time.perf_counter() - start, 2)
        return answer


def letters(many):
    """So many names, ascending."""
    return tuple("abcdefghijklmnopqrstuvwxyz"[:many]) if many <= 26 else tuple(
        [one + other for one in "abcdefghijklmnopqrstuvwxyz" for other in "abcdefghijklmnopqrstuvwxyz"][:many])


def drawn_groups(dice, hosts):
    """Some of the hosts of a tree that is drawn by lot: the far sides of cuts that do not cross."""
    parts = [(host,) for host in hosts[1:]]
    groups = []
    while len(parts) > 1:
        dice.shuffle(parts)
        many = dice.randint(2, min(4, len(parts)))
        group = tuple(sorted(sum(parts[:many], ())))
        parts = [group] + parts[many:]
        if len(group) <= len(hosts) - 2 and dice.random() < 0.8:
            groups.append(group)
    return groups


def drawn_cuts(seed, many):
    """A row of hosts, and cuts of them that do not cross, drawn by lot."""
    dice = random.Random(seed)
    hosts = letters(many)
    groups = drawn_groups(dice, hosts)
    dice.shuffle(groups)
    return hosts, [Cut([host for host in hosts if host not in group], group) for group in groups]


def caterpillar_cuts(many):
    """So many hosts, and as many cuts as they can have, each in the next one."""
    hosts = letters(many)
    return hosts, [Cut(hosts[:k], hosts[k:]) for k in range(2, many - 1)]


def drawn_frames(seed, hosts, many):
    """So many frames among some hosts, drawn by lot, some of them to all."""
    dice = random.Random(seed)
    frames = []
    for _ in range(many):
        sender = dice.choice(hosts)
        others = [host for host in hosts if host != sender]
        frames.append(Frame(sender, dice.choice(others) if others and dice.random() < 0.85 else None))
    return frames


class PlainNetwork:
    """A live network, told port by port as the document defines it."""

    def __init__(self, links, places):
        self.places = places
        switches = {switch for link in links for switch in link} | set(places.values())
        self.ports = {switch: [] for switch in switches}
        for one, other in links:
            self.ports[one].append(("link", other))
            self.ports[other].append(("link", one))
        for host, switch in places.items():
            self.ports[switch].append(("host", host))
        self.known = {switch: {} for switch in switches}

    def send(self, frame):
        """The sight of a frame, which is sent."""
        waiting = [(self.places[frame.sender], ("host", frame.sender))]
        seen = []
        while waiting:
            switch, came = waiting.pop(0)
            self.known[switch][frame.sender] = came
            out = [port for port in self.ports[switch] if port != came]
            if frame.target is not None and frame.target in self.known[switch]:
                out = [self.known[switch][frame.target]]
            for kind, what in out:
                if kind == "host":
                    seen.append(what)
                else:
                    waiting.append((what, ("link", switch)))
        return tuple(sorted(seen))


class PlainPlay:
    """Who sees what by the partings that hold, as the document states it. answers is a function of four hosts."""

    def __init__(self, hosts, answers):
        self.hosts = hosts
        self.answers = answers
        self.seers = {host: set() for host in hosts}

    def holds(self, a, h, c, s):
        """Whether the parting a h / c s holds, where s is neither a nor h."""
        return s not in (a, h) and self.answers(a, h, c, s) == Parting([a, h], [c, s])

    def send(self, frame):
        """The sight of a frame, which is sent."""
        a, c = frame.sender, frame.target
        seen = []
        for h in self.hosts:
            if h != a and (c is None or h == c or all([self.holds(a, h, c, s) for s in self.seers[c]])):
                seen.append(h)
        self.seers[a].update(seen)
        return tuple(seen)
