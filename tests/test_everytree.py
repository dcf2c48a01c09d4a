import random
import string
import time

from seenframes.errors import BadFour, BadIndex, TooMany
from seenframes.everytree import (
    Difference, difference, exchangeable, idle, left_alike, shows_difference, thinned, untold)
from seenframes.frames import Frame, History, frames_among
from seenframes.networks import Network
from seenframes.trees import Tree, all_trees
from tests.support import Case, any_values, drawn_cuts, drawn_frames, letters

EMPTY = History()
PAIRS = [("a b", "a *"), ("b a", "a b, b a"), ("a b, b a, a b", "a b, b a"), ("-", "-"), ("-", "a *"), ("a b, c d", "c d, a b")]


def rows(*texts):
    return [History.read(text) for text in texts]


def hosts_beside(*histories):
    """The named hosts and the first two names of one letter that are not named."""
    named = sorted({host for history in histories for host in history.hosts})
    return named + [letter for letter in string.ascii_lowercase if letter not in named][:2]


def plain_difference(one, other, trees=None):
    """What difference is to tell, by live networks on all trees; None if there is nothing."""
    for tree in trees or all_trees(hosts_beside(one, other)):
        nets = [Network(tree), Network(tree)]
        nets[0].play(one), nets[1].play(other)
        for frame in frames_among(tree.hosts):
            sights = [net.would(frame) for net in nets]
            if sights[0] != sights[1]:
                return Difference(tree, frame, min(set(sights[0]) ^ set(sights[1])))
    return None


def plain_idle(history):
    return tuple(k for k in range(len(history)) if plain_difference(history, history.without(k)) is None)


def plain_thinned(history):
    while plain_idle(history):
        history = history.without(plain_idle(history)[-1])
    return history


def plain_untold(history, four):
    shown = []
    for tree in all_trees(history.hosts):
        shown.append((tree, Network(tree).play(history), tree(*four)))
    for at, (tree, sights, answer) in enumerate(shown):
        for other, others, further in shown[at + 1:]:
            if sights == others and answer != further:
                return tree, other
    return None


def drawn_row(seed, names, most):
    dice = random.Random(seed)
    hosts = dice.sample(letters(6), names)
    return History.of(drawn_frames(seed, sorted(hosts), dice.randint(0, most)))


def drawn_pair(seed, most=4):
    """Two rows of frames, which are often much alike."""
    dice = random.Random(seed)
    one = drawn_row(seed, dice.choice([2, 3, 3]), most)
    other = one
    for _ in range(dice.randint(0, 2)):
        change = dice.choice(["without", "swapped", "more", "again", "all"])
        k = dice.randrange(len(other) or 1)
        if change == "without" and len(other):
            other = other.without(k)
        elif change == "swapped" and k + 1 < len(other):
            other = other.swapped(k)
        elif change == "again" and len(other):
            other = other + other[k]
        elif change == "all" and len(other):
            other = History.of(other.frames[:k] + (Frame(other[k].sender),) + other.frames[k + 1:])
        elif one.hosts:
            other = other + Frame(*dice.sample(one.hosts, 2)) if len(one.hosts) > 1 else other + Frame(one.hosts[0])
    return one, other


class LeftAlike(Case):

    def test_beside_a_plain_look(self):
        answers = {True: 0, False: 0}
        for seed in range(220):
            one, other = drawn_pair(seed)
            wanted = plain_difference(one, other)
            self.same(left_alike(one, other), wanted is None)
            self.same(left_alike(one=other, other=one), wanted is None)
            found = difference(one=one, other=other)
            self.same(found, wanted)
            if wanted is not None:
                self.same([found.tree, found.frame, found.host], [wanted.tree, wanted.frame, wanted.host])
                self.same(shows_difference(one=one, other=other, value=found), True)
                self.same(shows_difference(other, one, found), True)
            answers[wanted is None] += 1
        self.assertGreater(min(answers.values()), 30)

    def test_four_named_hosts(self):
        for seed in range(6):
            one = drawn_row(seed, 4, 6)
            other = one.without(0) if len(one) else one
            wanted = plain_difference(one, other)
            self.same([left_alike(one, other), difference(one, other)], [wanted is None, wanted])
        one, other = rows("a b, c d", "c d, a b")
        self.same([left_alike(one, other), difference(one, other)], [True, None])

    def test_fixed_pairs(self):
        for one, other in PAIRS:
            one, other = rows(one, other)
            self.same(difference(one, other), plain_difference(one, other))

    def test_no_frames(self):
        self.same([left_alike(EMPTY, EMPTY), difference(EMPTY, EMPTY), idle(EMPTY), thinned(EMPTY)],
                  [True, None, (), EMPTY])
        self.same(left_alike(EMPTY, History.read("c *")), False)
        found = difference(EMPTY, History.read("c *"))
        self.same([found.tree.hosts, str(found.frame), found.host], [("a", "b", "c"), "a c", "b"])

    def test_names_beside_the_named_ones(self):
        for text, hosts in [("b a", "abcd"), ("c d", "abcd"), ("a c", "abcd"), ("x *", "abx"), ("b d, c *", "abcde"),
                            ("aa b", None), ("host web", None)]:
            row = History.read(text)
            found = difference(EMPTY, row)
            wanted = tuple(sorted(hosts or [*row.hosts, *hosts_beside(row)[-2:]]))
            self.same(found.tree.hosts, wanted)
            self.same(found, plain_difference(EMPTY, row))

    def test_rows_that_leave_alike_do_so_on_greater_trees(self):
        found = 0
        for seed in range(260):
            one, other = drawn_pair(seed, 6)
            if one != other and left_alike(one, other):
                found += 1
                hosts = sorted({*one.hosts, *other.hosts, *letters(8)})
                for many in range(3):
                    tree = Tree(hosts, [])
                    renamed = Tree(*drawn_cuts(seed + 300 * many, len(hosts)))
                    tree = renamed.renamed(dict(zip(renamed.hosts, random.Random(seed).sample(hosts, len(hosts)))))
                    nets = [Network(tree), Network(tree)]
                    nets[0].play(one), nets[1].play(other)
                    for frame in drawn_frames(seed, hosts, 25):
                        self.same(nets[0].outlook(), nets[1].outlook())
                        self.same(nets[0].send(frame), nets[1].send(frame))
        self.assertGreater(found, 40)


class Errors(Case):

    def test_too_many_frames_and_hosts(self):
        long = History.of([Frame("a", "b")] * 13)
        wide = History.of([Frame("a", "b"), Frame("c", "d"), Frame("e")])
        long_wide = long + wide
        calls = [left_alike, difference, lambda one, other: shows_difference(one, other, None)]
        for call in calls:
            for one, other in [(long, EMPTY), (EMPTY, long), (long, wide), (wide, long), (long_wide, EMPTY),
                               (EMPTY, long_wide)]:
                self.raises(TooMany("frames", 12), call, one, other)
            self.raises(TooMany("named", 4), call, wide, EMPTY)
            self.raises(TooMany("named", 4), call, EMPTY, wide)
            self.raises(TooMany("named", 4), call, wide.upto(2), History.read("e *"))
            self.raises(TooMany("named", 4), call, History.read("a b, c *"), History.read("d e"))
        for call in (idle, thinned, lambda history: exchangeable(history, 0)):
            self.raises(TooMany("frames", 12), call, long)
            self.raises(TooMany("frames", 12), call, long_wide)
            self.raises(TooMany("named", 4), call, wide)
        twelve = History.of([Frame("a", "b"), Frame("c", "d")] * 6)
        self.same([left_alike(twelve, twelve), difference(twelve, twelve)], [True, None])
        found = difference(twelve, EMPTY)
        self.raises(TooMany("named", 4), shows_difference, twelve, History.read("e *"), found)
        self.same(shows_difference(twelve, EMPTY, found), True)

    def test_wrong_indexes_come_first(self):
        long = History.of([Frame("a", "b")] * 13)
        for value in any_values():
            if type(value) is not int:
                self.raises(BadIndex(value), exchangeable, long, value)
        for value in (-1, 12, 13, 10 ** 59, True, False):
            self.raises(BadIndex(value), exchangeable, long, value)
        self.raises(BadIndex(0), exchangeable, EMPTY, 0)
        self.raises(BadIndex(0), exchangeable, History.read("a b"), 0)
        self.raises(TooMany("frames", 12), exchangeable, long, 11)

    def test_untold(self):
        long = History.of([Frame(*"ab"), Frame(*"cd"), Frame(*"ef"), Frame(*"ga")] + [Frame("a", "b")] * 9)
        self.raises(TooMany("frames", 12), untold, long, ("a", "b", "c", "x"))
        self.raises(TooMany("frames", 12), untold, long, None)
        self.raises(TooMany("named", 6), untold, long.upto(4), ("a", "b", "c", "x"))
        self.raises(TooMany("named", 6), untold, long.upto(12), None)
        row = History.read("a b, c d, e *")
        for value in any_values() + [("a", "b", "c"), ("a", "b", "c", "x"), ["a", "b", "c", "c"], "abcd",
                                     ("a", "b", "c", "d", "e"), ("a", "b", "c", ["d"]), {"a", "b", "c", "d"}]:
            self.raises(BadFour(value), untold, row, value)
        for few in (EMPTY, History.read("a *"), History.read("a b, c *")):
            self.raises(BadFour(("a", "b", "c", "d")), untold, few, ("a", "b", "c", "d"))
        self.same([str(tree) for tree in untold(history=row, four=["e", "b", "c", "a"])],
                  [str(tree) for tree in plain_untold(row, ("a", "b", "c", "e"))])


class Shows(Case):

    def differs(self, one, other, tree, frame, host):
        """Whether the host sees the frame behind just one of both rows on the tree, on live networks."""
        nets = [Network(tree), Network(tree)]
        nets[0].play(one), nets[1].play(other)
        return (host in nets[0].would(frame)) != (host in nets[1].would(frame))

    def test_any_tree(self):
        answers = {True: 0, False: 0}
        for seed in range(60):
            one, other = drawn_pair(seed)
            dice = random.Random(seed)
            hosts = sorted({*one.hosts, *other.hosts, *letters(dice.choice([1, 5, 9]))})
            drawn = Tree(*drawn_cuts(seed, len(hosts)))
            tree = drawn.renamed(dict(zip(drawn.hosts, dice.sample(hosts, len(hosts)))))
            for frame in list(frames_among(tree.hosts))[::3]:
                for host in tree.hosts:
                    wanted = self.differs(one, other, tree, frame, host)
                    self.same(shows_difference(one, other, Difference(tree, frame, host)), wanted)
                    answers[wanted] += 1
        self.assertGreater(min(answers.values()), 40)

    def test_one_thing_otherwise(self):
        one, other = rows("b a", "a b, b a")
        found = difference(one, other)
        self.same(shows_difference(one, other, found), True)
        tree, frame, host = found.tree, found.frame, found.host
        for value in any_values():
            for paper in (value, Difference(value, frame, host), Difference(tree, value, host),
                          Difference(tree, frame, value), [value], (tree, frame, host)):
                self.same(shows_difference(one, other, paper), False)
        for paper in (Difference(tree, Frame("b"), host), Difference(tree, Frame("a"), host),
                      Difference(tree, Frame("b", "x"), host), Difference(tree, Frame("x", "a"), host),
                      Difference(tree, frame, "b"), Difference(tree, frame, "a"), Difference(tree, frame, "x"),
                      Difference(tree, str(frame), host), Difference(str(tree), frame, host),
                      Difference(tree, frame, [host]), Difference(tree.only(["b", "c", "d"]), frame, host),
                      Difference(tree.only(["a", "c", "d"]), Frame("c", "a"), "d")):
            self.same(shows_difference(one, other, paper), False)
        self.same(shows_difference(one, other, Difference(tree, frame, "d")), True)
        self.same(shows_difference(one, one, found), False)

    def test_papers(self):
        for value in any_values():
            paper = Difference(value, [value], (value,))
            self.assertIs(paper.tree, value)
            self.same([paper.frame, paper.host], [[value], (value,)])
            self.assertTrue(paper == Difference(tree=value, frame=[value], host=(value,)))
            self.assertFalse(paper != Difference(value, [value], (value,)))
            for other in (value, Difference([value], [value], (value,)), Difference(value, (value,), (value,)),
                          Difference(value, [value], [value])):
                self.assertTrue(paper != other)
                self.assertFalse(paper == other)


class Rows(Case):

    def test_idle_and_thinned(self):
        many, lengths = 0, set()
        for seed in range(90):
            row = drawn_row(seed, random.Random(seed).choice([1, 2, 3, 3]), 6)
            self.same(idle(history=row), plain_idle(row))
            left = thinned(history=row)
            self.same(left, plain_thinned(row))
            self.same([idle(left), left_alike(row, left)], [(), True])
            many += len(idle(row)) > 0
            lengths.add(len(row) - len(left))
        self.assertGreater(many, 30)
        self.assertGreaterEqual(lengths, {0, 1, 2})

    def test_the_last_idle_frame_is_left_out(self):
        row = History.read("a b, b a, b a")
        self.same([idle(row), thinned(row)], [(1, 2), row.upto(2)])
        row = History.read("a *, a b, a *")
        self.same([idle(row), str(thinned(row))], [(0, 1, 2), "a *"])
        self.same(str(thinned(History.read("a b, a *, a b"))), "a b")

    def test_hosts_that_are_left_out(self):
        row = History.read("a b, c a, c a, a c")
        self.same([idle(row), thinned(row)], [plain_idle(row), plain_thinned(row)])

    def test_exchangeable(self):
        answers = {True: 0, False: 0}
        for seed in range(60):
            row = drawn_row(seed, random.Random(seed).choice([2, 3]), 5)
            for k in range(len(row) - 1):
                wanted = plain_difference(row, row.swapped(k)) is None
                self.same([exchangeable(row, k), exchangeable(history=row, k=k)], [wanted, wanted])
                answers[wanted] += 1
        self.assertGreater(min(answers.values()), 20)

    def test_arguments_stay(self):
        row = History.read("a b, b a, a b")
        thinned(row), idle(row), exchangeable(row, 0), left_alike(row, row)
        self.same(str(row), "a b, b a, a b")


class Untold(Case):

    def test_beside_a_plain_look(self):
        answers = {True: 0, False: 0}
        for seed in range(90):
            dice = random.Random(seed)
            hosts = letters(dice.choice([4, 4, 5]))
            frames = [Frame("b", "c"), Frame("c", "b"), Frame("a", "c"), Frame("b", "a"), Frame("d", "c"), Frame("b", "d")]
            frames = frames[:dice.randint(0, 6)] + drawn_frames(seed, hosts, dice.randint(0, 6))
            row = History.of(frames)
            if len(row.hosts) < 4:
                continue
            four = tuple(dice.sample(row.hosts, 4))
            wanted = plain_untold(row, four)
            found = untold(row, dice.choice([four, list(four)]))
            self.same(found, wanted)
            answers[wanted is None] += 1
        self.assertGreater(min(answers.values()), 3)

    def test_six_hosts(self):
        row = History.read("a b, b a, c b, d a, e c, f d, c a, d b")
        for four in [("a", "b", "c", "d"), ("f", "e", "d", "c")]:
            self.same(untold(row, four), plain_untold(row, four))

    def test_what_named_hosts_see_hangs_on_their_partings_alone(self):
        row = History.read("b c, c b, a c, b a, d c, b d")
        self.same(untold(row, tuple("abcd")), None)
        for seed in range(12):
            tree = Tree(*drawn_cuts(seed, 9))
            few = tree.only(row.hosts)
            sights = [tuple(host for host in sight if host in row.hosts) for sight in Network(tree).play(row)]
            self.same(tuple(sights), Network(few).play(row))


class Quick(Case):

    def test_at_the_bounds(self):
        for seed in range(3):
            row = History.of(drawn_frames(seed, letters(4), 12))
            other = row.without(11) + Frame("a")
            for call in (left_alike, difference):
                self.soon(call, row, other)
                self.soon(call, row, row)
            self.soon(idle, row)
            self.soon(thinned, row)
            self.soon(exchangeable, row, 5)
            self.soon(shows_difference, row, EMPTY, difference(row, EMPTY))
            six = History.of(drawn_frames(seed, letters(6), 8) + [Frame(*"ab"), Frame(*"cd"), Frame(*"ef")])
            self.soon(untold, six, letters(4))
        row = History.of([Frame(one) for one in letters(4)] * 3)
        self.soon(thinned, row)
        wide = Tree(*drawn_cuts(3, 40))
        self.soon(shows_difference, row, EMPTY, Difference(wide, Frame("a", "b"), "c"))

    def test_ordinary_calls(self):
        drawn = [drawn_row(seed, 3, 4) for seed in range(100)]
        start = time.perf_counter()
        for row in drawn:
            left_alike(row, EMPTY), difference(row, EMPTY), idle(row), thinned(row)
            if len(row) > 1:
                exchangeable(row, 0)
        self.assertLess((time.perf_counter() - start) / len(drawn) / 5, 0.008)
