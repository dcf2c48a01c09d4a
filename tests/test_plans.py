import random
import time

from seenframes.errors import BadSight, NothingFits, TooMany
from seenframes.frames import Frame, History, frames_among
from seenframes.later import apart
from seenframes.networks import Network
from seenframes.nexts import Next, next_frame
from seenframes.plans import Ask, Known, Plan, least_plan, shows_plan
from seenframes.plays import Play
from seenframes.records import Record
from seenframes.trees import Tree, all_trees
from tests.support import Case, any_values, drawn_cuts, drawn_frames, letters

FOUR = list(all_trees(letters(4)))
STAR = FOUR[0]


def drawn_record(seed, hosts, most):
    """A record of frames drawn by lot on a tree drawn by lot; some watch, and some notes may fit no tree."""
    dice = random.Random(seed)
    tree = dice.choice(list(all_trees(hosts))) if len(hosts) < 6 else Tree(*drawn_cuts(seed, len(hosts)))
    watchers = [host for host in hosts if dice.random() < 0.7]
    row = History.of(drawn_frames(seed, hosts, dice.randint(0, most)))
    record = Record.seen_of(tree, row, watchers)
    if dice.random() < 0.1 and watchers:
        sender = dice.choice(hosts)
        record.note(Frame(sender), *[host for host in watchers[1:] if host != sender])
    return record


def plain_next(record):
    """What next_frame is to tell, by a look at each frame and each tree."""
    trees = [tree for tree in all_trees(record.hosts) if record.fits(tree)]
    rows = []
    for frame in frames_among(record.hosts):
        groups = {}
        for tree in trees:
            net = Network(tree)
            net.play(record.history)
            seen = tuple(host for host in net.send(frame) if host in record.watchers)
            groups[seen] = groups.get(seen, 0) + 1
        if len(groups) > 1:
            rows.append((max(groups.values()), frame, tuple(sorted(groups.items()))))
    worst = min([row[0] for row in rows], default=0)
    return [(frame, many, groups) for many, frame, groups in rows if many == worst][:1]


class NextFrames(Case):

    def test_beside_a_plain_look(self):
        told = 0
        for seed in range(110):
            record = drawn_record(seed, letters(random.Random(seed).choice([1, 2, 3, 4, 4, 4, 5, 5])), 9)
            before = record.twin()
            if not list(record.fitting()):
                self.raises(NothingFits(), next_frame, record)
                continue
            found = next_frame(record)
            wanted = plain_next(record)
            if found is not None:
                self.assertIs(type(found), Next)
                self.same((found.frame, found.worst, found.groups), wanted[0])
                told += 1
            else:
                self.same(wanted, [])
            self.assertTrue(record == before)
        self.assertGreater(told, 14)

    def test_six_hosts(self):
        for seed in range(3):
            record = drawn_record(seed, letters(6), 9)
            found = next_frame(record=record)
            wanted = plain_next(record)
            self.same([] if found is None else [(found.frame, found.worst, found.groups)], wanted)

    def test_none(self):
        for record in [Record(letters(4)), Record(letters(6)), Record(["a"]), Record(["a", "b"]), Record(letters(3)),
                       Record(letters(5), [])]:
            self.same(next_frame(record), None)

    def test_nothing_fits(self):
        record = Record(letters(4))
        record.note(Frame("a"), "b")
        self.raises(NothingFits(), next_frame, record)
        record.back()
        self.same(next_frame(record), None)

    def test_papers(self):
        for value in any_values():
            paper = Next(value, [value], (value,))
            self.assertIs(paper.frame, value)
            self.same([paper.worst, paper.groups], [[value], (value,)])
            self.assertTrue(paper == Next(frame=value, worst=[value], groups=(value,)))
            self.assertFalse(paper != Next(value, [value], (value,)))
            for other in (value, Next([value], [value], (value,)), Next(value, (value,), (value,)),
                          Next(value, [value], [value])):
                self.assertTrue(paper != other)
                self.assertFalse(paper == other)


def record_of(seed, most=6):
    """A record of four hosts that all watch."""
    dice = random.Random(seed)
    return Record.seen_of(dice.choice(FOUR), History.of(drawn_frames(seed, letters(4), dice.randint(0, most))))


def groups_behind(trees, history):
    """For each tree the tree with which it is alike for ever that comes first."""
    return [[other for other in trees if other == tree or apart(other, tree, history) is None][0] for tree in trees]


class PlainPlans:
    """The least depth of a plan, by a search over the frames on live networks, up to some depth."""

    def __init__(self, record):
        self.trees = list(record.fitting())
        self.history = record.history
        self.frames = list(frames_among(record.hosts, True))
        firsts = groups_behind(self.trees, self.history)
        self.group = {str(tree): str(first) for tree, first in zip(self.trees, firsts)}
        self.failed = {}

    def can(self, nets, depth):
        """Whether a plan at most so deep tells the trees of these networks apart."""
        names = [str(tree) for tree, _ in nets]
        if len({self.group[name] for name in names}) == 1:
            return True
        key = (tuple(names), tuple(net.outlook() for _, net in nets))
        if depth == 0 or self.failed.get(key, -1) >= depth:
            return False
        for frame in self.frames:
            groups = {}
            for tree, net in nets:
                groups.setdefault(net.would(frame), []).append((tree, net.twin()))
            for _, net in [pair for group in groups.values() for pair in group]:
                net.send(frame)
            if all(self.can(group, depth - 1) for group in groups.values()):
                return True
        self.failed[key] = depth
        return False

    def start(self):
        nets = [(tree, Play(tree)) for tree in self.trees]
        for _, net in nets:
            net.play(self.history)
        return nets


def plain_shows(record, value):
    """Whether any value is a plan, walked for all trees at once on live networks."""
    nets = [(tree, Network(tree)) for tree in record.fitting()]
    firsts = groups_behind([tree for tree, _ in nets], record.history)
    group = {str(tree): str(first) for (tree, _), first in zip(nets, firsts)}
    for _, net in nets:
        net.play(record.history)

    def walk(nets, plan, most):
        if type(plan) is Known:
            trees = tuple(tree for tree, _ in nets)
            return type(plan.trees) is tuple and plan.trees == trees and len({group[str(one)] for one in trees}) == 1
        if type(plan) is not Ask or most == 0 or type(plan.frame) is not Frame:
            return False
        if not {plan.frame.sender, plan.frame.target} <= {*record.hosts, None}:
            return False
        parts = {}
        for tree, net in nets:
            twin = net.twin()
            parts.setdefault(twin.send(plan.frame), []).append((tree, twin))
        if type(plan.cases) is not tuple or not all(type(case) is tuple and len(case) == 2 for case in plan.cases):
            return False
        if [case[0] for case in plan.cases] != sorted(parts):
            return False
        return all(walk(parts[sight], inner, most - 1) for sight, inner in plan.cases)

    return bool(nets) and walk(nets, value, 20)


def longer(hosts, plan, record):
    """The plan behind a frame to all more, which all trees show alike; None where this spends what tells."""
    frame = Frame(record.history[0].sender) if len(record) else Frame(hosts[0])
    sight = tuple(host for host in hosts if host != frame.sender)
    return Ask(frame, ((sight, plan),))


def parts_of(plan):
    """All plans in a plan."""
    found = [plan]
    if type(plan) is Ask:
        for _, inner in plan.cases:
            found.extend(parts_of(inner))
    return found


def put(plan, at, change):
    """The plan with a change of the part at an index, counted as parts_of does; None behind it."""
    parts = parts_of(plan)
    if at == 0:
        return change(plan)
    at = at - 1
    cases = []
    for sight, inner in parts[0].cases:
        many = len(parts_of(inner))
        cases.append((sight, put(inner, at, change) if 0 <= at < many else inner))
        at = at - many
    return Ask(plan.frame, tuple(cases))


class Plans(Case):

    def test_least_plans_beside_a_plain_search(self):
        depths = set()
        for seed in range(50):
            record = record_of(seed)
            plan = least_plan(record)
            plain = PlainPlans(record)
            nets = plain.start()
            if plan is None:
                self.assertFalse(plain.can(nets, 12))
                self.assertGreater(len(set(plain.group.values())), 1)
            else:
                self.assertTrue(plain.can(nets, plan.depth))
                self.assertFalse(plan.depth > 0 and plain.can(nets, plan.depth - 1))
                self.same([shows_plan(record, plan), plain_shows(record, plan)], [True, True])
            depths.add(plan and plan.depth)
        self.assertGreaterEqual(depths, {None, 0, 1, 2, 4, 5})

    def test_plans_that_begin_otherwise_are_longer(self):
        # Behind these rows some frame ahead of the right one spends nothing, but tells nothing either.
        for text in ["d a, c d, b *, a b", "c *, b d, d c, a b", "d c, b *, a d, c b", "d a, b c, c b, a d",
                     "c d, b a, d b, a c", "c *, d b, a c, b d", "c a, d *, b c, a d", "b c, c b, a c, d b",
                     "d a, a d, c d, b c", "d *, b a, a b, c d", "b a, c *, d c, a b, b *", "b *, b c, c b, d b, a d",
                     "d b, c d, b a, c d, a b", "b a, d a, a d, b *, c b"]:
            record = Record.seen_of(STAR, History.read(text))
            plan = least_plan(record)
            self.same([plan.depth, shows_plan(record, plan), plain_shows(record, plan)], [1, True, True])
            telling = [frame for frame in frames_among(record.hosts)
                       if len({Network.send(net, frame) for net in self.nets(record)}) > 1]
            self.assertIn(plan.frame, telling)

    def nets(self, record):
        """Networks of the trees that fit, behind the notes."""
        found = [Network(tree) for tree in record.fitting()]
        for net in found:
            net.play(record.history)
        return found

    def test_frames_of_no_hosts(self):
        record = Record(letters(4))
        plan = least_plan(record)
        for frame in (Frame("a", "x"), Frame("x", "a"), Frame("x"), Frame("x", "y")):
            for value in (Ask(frame, plan.cases), Ask(frame, ((letters(4)[1:], plan),)), Ask(frame, ((("x",), plan),))):
                self.same(shows_plan(record, value), False)

    def test_no_notes(self):
        plan = self.soon(least_plan, Record(letters(4)))
        self.same([plan.depth, shows_plan(Record(letters(4)), plan)], [6, True])
        self.same(plain_shows(Record(letters(4)), plan), True)

    def test_each_tree_ends_in_a_known_that_has_it(self):
        for seed in range(60):
            record = record_of(seed)
            plan = least_plan(record)
            if plan is None:
                continue
            for tree in record.fitting():
                net, here, asked = Network(tree), plan, 0
                net.play(record.history)
                while type(here) is Ask:
                    here = dict(here.cases)[net.send(here.frame)]
                    asked += 1
                self.assertIs(type(here), Known)
                self.assertIn(tree, here.trees)
                self.assertLessEqual(asked, plan.depth)

    def test_fewer_hosts(self):
        for many in (1, 2, 3):
            record = Record(letters(many))
            self.same(least_plan(record), Known((Tree.star(*letters(many)),)))
            self.same(shows_plan(record, Known((Tree.star(*letters(many)),))), True)
            record.note(Frame("a"), *letters(many)[1:])
            self.same(least_plan(record).depth, 0)

    def test_one_tree_fits(self):
        record = Record.seen_of(FOUR[1], History.read("b c, c b, a c"))
        found = list(record.fitting())
        if len(found) == 1:
            self.same(least_plan(record), Known((found[0],)))

    def test_trees_that_are_alike_for_ever(self):
        record = Record.seen_of(STAR, History.read("a b, b a, c a, d a, a c, b c, a d"))
        kinds = groups_behind(list(record.fitting()), record.history)
        plan = least_plan(record)
        self.assertEqual(plan is not None and plan.depth == 0, len({str(tree) for tree in kinds}) == 1)

    def test_errors(self):
        five = Record(letters(5), ["a"])
        five.note(Frame("b"), "a")
        wrong = Record(letters(4))
        wrong.note(Frame("a"), "b")
        some = Record(letters(4), ["c", "b"])
        none = Record(letters(4), [])
        none.note(Frame("a", "b"))
        unfit = Record(letters(4), ["a", "b"])
        unfit.note(Frame("c"), "a")
        for call in (least_plan, lambda record: shows_plan(record, Known(())), lambda record: shows_plan(record, None)):
            self.raises(TooMany("hosts", 4), call, five)
            self.raises(TooMany("hosts", 4), call, Record(letters(6)))
            self.raises(BadSight(("b", "c")), call, some)
            self.raises(BadSight(()), call, none)
            self.raises(BadSight(("a", "b")), call, unfit)
        self.raises(NothingFits(), least_plan, wrong)
        self.raises(NothingFits(), least_plan, record=wrong)
        for value in [Known(()), Known((STAR,)), None, least_plan(Record(letters(4))), Ask(Frame("a"), ())]:
            self.same(shows_plan(wrong, value), False)

    def test_right_plans_that_ask_more(self):
        asked = 0
        for seed in range(60):
            record = record_of(seed)
            plan = least_plan(record)
            if plan is None:
                continue
            more = plan
            for depth in range(plan.depth, 24):
                wanted = plain_shows(record, more)
                self.same([more.depth, shows_plan(record, more)], [depth, wanted])
                if depth > 20:
                    self.same(wanted, False)
                asked += wanted
                more = longer(record.hosts, more, record)
        self.assertGreater(asked, 150)

    def test_twenty_and_twenty_one_deep(self):
        record = Record.seen_of(STAR, History.read("a *, b *, c *, d *, a *"))
        plan = least_plan(record)
        self.same([type(plan), plan.depth], [Known, 0])
        for depth in range(24):
            self.same([plan.depth, shows_plan(record, plan)], [depth, depth <= 20])
            plan = longer(record.hosts, plan, record)

    def test_one_thing_otherwise(self):
        answers = {True: 0, False: 0}
        for seed in range(60):
            record = record_of(seed, 5)
            plan = least_plan(record)
            if plan is None:
                continue
            dice = random.Random(seed)
            frames = list(frames_among(record.hosts, True)) + [Frame("a", "x"), Frame("x"), "a b", None]
            changes = [
                lambda part: None, lambda part: dice.choice(parts_of(plan)), lambda part: Known(FOUR),
                lambda part: Known(tuple(FOUR)), lambda part: Known((dice.choice(FOUR),)), lambda part: Plan(),
                lambda part: Known(part.trees[::-1]) if type(part) is Known else Ask(part.frame, part.cases[::-1]),
                lambda part: Known(list(part.trees)) if type(part) is Known else Ask(part.frame, list(part.cases)),
                lambda part: Known(part.trees + part.trees[:1]) if type(part) is Known else Ask(part.frame, part.cases * 2),
                lambda part: Known(()) if type(part) is Known else Ask(part.frame, part.cases[:-1]),
                lambda part: Known(part.trees) if type(part) is Known else Ask(dice.choice(frames), part.cases),
                lambda part: part if type(part) is Known else Ask(part.frame, dict(part.cases)),
                lambda part: part if type(part) is Known else Ask(part.frame, tuple(list(case) for case in part.cases)),
                lambda part: part if type(part) is Known else Ask(part.frame, tuple(
                    (list(sight), inner) for sight, inner in part.cases)),
                lambda part: part if type(part) is Known else Ask(part.frame, tuple(
                    (sight[::-1], inner) for sight, inner in part.cases)),
                lambda part: part if type(part) is Known else Ask(part.frame, part.cases + ((("x",), Known(())),)),
                lambda part: part if type(part) is Known else Ask(part.frame, tuple(
                    (sight, inner, 0) for sight, inner in part.cases))]
            at = dice.randrange(len(parts_of(plan)))
            for change in changes:
                value = put(plan, at, change)
                wanted = plain_shows(record, value)
                self.same(shows_plan(record=record, value=value), wanted)
                answers[wanted] += 1
        self.assertGreater(min(answers.values()), 30)

    def test_any_values(self):
        for record in (Record(letters(4)), Record.seen_of(STAR, History.read("a *, b *, c *, d *")), Record(["a"])):
            plan = least_plan(record)
            for value in any_values():
                self.same(shows_plan(record, value), False)
                self.same(shows_plan(record, Known(value)), False)
                self.same(shows_plan(record, Known((value,))), False)
                self.same(shows_plan(record, Ask(value, ())), False)
                self.same(shows_plan(record, Ask(Frame(record.hosts[0]), value)), False)
                self.same(shows_plan(record, Ask(Frame(record.hosts[0]), ((value, plan),))), value == () and len(
                    record.hosts) == 1)
                self.same(shows_plan(record, Ask(Frame(record.hosts[0]), ((record.hosts[1:], value),))), False)


class Papers(Case):

    def test_depths(self):
        leaf = Known(())
        self.same([leaf.depth, Ask(None, (((), leaf),)).depth], [0, 1])
        two = Ask(Frame("a"), ((("b",), leaf), (("c",), Ask(None, (((), leaf),)))))
        self.same([two.depth, Ask(0, (((), two), ((), leaf))).depth, Ask(0, (((), leaf), ((), two))).depth], [2, 3, 3])
        for made in (leaf, two):
            self.assertIsInstance(made, Plan)
        for many in range(1, 200):
            leaf = Ask(None, ((None, leaf), (None, leaf)))
            self.same(leaf.depth, many)

    def test_any_values(self):
        for value in any_values():
            known, ask = Known(value), Ask(value, [value])
            self.assertIs(known.trees, value)
            self.assertIs(ask.frame, value)
            self.same(ask.cases, [value])
            self.assertIsInstance(Ask(value, value).depth, int)
            self.same(known.depth, 0)
            self.assertTrue(known == Known(trees=value) and ask == Ask(frame=value, cases=[value]))
            self.assertFalse(known != Known(value) or ask != Ask(value, [value]))
            for one, other in [(known, ask), (ask, known), (known, Known([value])), (known, value), (ask, value),
                               (ask, Ask([value], [value])), (ask, Ask(value, (value,)))]:
                self.assertTrue(one != other)
                self.assertFalse(one == other)

    def test_equality_of_plans(self):
        for seed in range(12):
            one, other = least_plan(record_of(seed)), least_plan(record_of(seed))
            self.assertTrue(one == other)
            if one is not None and one.depth:
                self.assertFalse(one == Ask(one.frame, one.cases[:-1]))


class Quick(Case):

    def test_at_the_bounds(self):
        self.soon(next_frame, Record(letters(6)))
        self.soon(next_frame, Record.seen_of(Tree.star(*letters(6)), History.of(drawn_frames(3, letters(6), 20)), []))
        plan = self.soon(least_plan, Record(letters(4)))
        self.soon(shows_plan, Record(letters(4)), plan)

    def test_ordinary_calls(self):
        records = [record_of(seed) for seed in range(60)]
        start = time.perf_counter()
        for record in records:
            shows_plan(record, least_plan(record))
        self.assertLess((time.perf_counter() - start) / len(records), 0.03)
