"""What several tests use: any values, exact comparisons, and drawn trees and webs."""

import random
import time
import unittest

from seenframes import errors
from seenframes.cuts import Cut
from seenframes.frames import Frame, History
from seenframes.partings import Parting


def any_values():
    """Values of every kind that can be passed, of which none is meant anywhere by chance."""
    deep = "a"
    for _ in range(8):
        deep = [deep]
    return [
        None, True, False, 0, 1, 2, -1, 99, 100, 10 ** 59, -(10 ** 59),
        "", " ", "A", "a1", "a b", "abcdefghi", "a\n", "-", "*", "~" * 5000, "a" * 5000, "zz",
        (), ("zz",), ("zz", 1), (None, None), (1, True), [], ["zz"], [None], [[]], deep, [0] * 3000,
        {}, {"zz": 0}, {0: "zz"}, {None: []}, ([], {}),
        Frame("zz"), Frame("zy", "zz"), History(), History(Frame("zz")),
        Cut(["zw", "zx"], ["zy", "zz"]), Parting(["zw", "zx"], ["zy", "zz"]),
        errors.BadHosts(None), errors.Unlike(),
    ]


def no_integers():
    """Those of any values that are no integers."""
    return [value for value in any_values() if type(value) is not int]


def same(one, other):
    """Whether two values are equal, and of the same kinds throughout."""
    if type(one) is not type(other):
        return False
    if isinstance(one, (list, tuple)):
        return len(one) == len(other) and all(same(a, b) for a, b in zip(one, other))
    if isinstance(one, dict):
        return same(list(one.items()), list(other.items()))
    if isinstance(one, Exception):
        return one is other
    return one == other


class Case(unittest.TestCase):
    """A test with checks of kinds and of errors."""

    def same(self, one, other):
        """Equal, and of the same kinds throughout."""
        self.assertTrue(same(one, other), f"{one!r} is not {other!r}")

    def raises(self, error, call, *told, **named):
        """The call raises just this error, of just this class, with just these values in its attributes."""
        with self.assertRaises(errors.SeenError) as caught:
            call(*told, **named)
        self.same_error(caught.exception, error)

    def same_error(self, one, other):
        """Of just the same class, with the same values in the same attributes."""
        self.assertIs(type(one), type(other), f"{one!r} {vars(one)!r}")
        self.assertEqual(set(vars(one)), set(vars(other)))
        for name, value in vars(one).items():
            self.same(value, getattr(other, name))

    def no_order(self, one):
        """The value stands in no order with a value of another kind."""
        for sign in (lambda a, b: a < b, lambda a, b: a <= b, lambda a, b: a > b, lambda a, b: a >= b):
            for other in (None, 1, "a", (), []):
                with self.assertRaises(TypeError):
                    sign(one, other)

    def soon(self, call, *told):
        """What the call returns, which it does within two seconds."""
        start = time.perf_counter()
        answer = call(*told)
        self.assertLess(time.perf_counter() - start, 2)
        return answer


def letters(many):
    """So many names, ascending."""
    return tuple("abcdefghijklmnopqrstuvwxyz"[:many]) if many <= 26 else tuple(
        [one + other for one in "abcdefghijklmnopqrstuvwxyz" for other in "abcdefghijklmnopqrstuvwxyz"][:many])


def drawn_groups(dice, hosts):
    """Some of the hosts of a tree that is drawn by lot: the far sides of cuts that do not cross."""
    parts = [(host,) for host in hosts[1:]]
    groups = []
    while len(parts) > 1:
        dice.shuffle(parts)
        many = dice.randint(2, min(4, len(parts)))
        group = tuple(sorted(sum(parts[:many], ())))
        parts = [group] + parts[many:]
        if len(group) <= len(hosts) - 2 and dice.random() < 0.8:
            groups.append(group)
    return groups


def drawn_cuts(seed, many):
    """A row of hosts, and cuts of them that do not cross, drawn by lot."""
    dice = random.Random(seed)
    hosts = letters(many)
    groups = drawn_groups(dice, hosts)
    dice.shuffle(groups)
    return hosts, [Cut([host for host in hosts if host not in group], group) for group in groups]


def caterpillar_cuts(many):
    """So many hosts, and as many cuts as they can have, each in the next one."""
    hosts = letters(many)
    return hosts, [Cut(hosts[:k], hosts[k:]) for k in range(2, many - 1)]
