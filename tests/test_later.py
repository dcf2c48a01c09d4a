import random
import time
from itertools import permutations

from seenframes.errors import NoHost, TooMany, Unlike
from seenframes.frames import Frame, History, frames_among
from seenframes.later import apart, closed, shows_apart, shows_closed
from seenframes.networks import Network
from seenframes.plays import Play
from seenframes.trees import Tree, all_trees
from tests.support import Case, any_values, caterpillar_cuts, drawn_frames, letters

FOUR = list(all_trees(letters(4)))
FIVE = list(all_trees(letters(5)))
STAR, TWO = FOUR[0], FOUR[3]
ROW = History.read("b c, c b, a c")


def plain_steps(one, other, history):
    """A plain search: the shortest row behind a history that tells two trees apart, and all outlooks that come, by
    the seers of all hosts on live networks. The rows are gone through by length, then in the order of their frames."""
    nets = Network(one), Network(other)
    for frame in history:
        if nets[0].send(frame) != nets[1].send(frame):
            return nets[0].frames, None
    frames = list(frames_among(one.hosts, True))
    waiting = [nets]
    found = {tuple(nets[0].seers(host) for host in one.hosts)}
    outlooks = [nets[0].outlook()]
    while waiting:
        first, second = waiting.pop(0)
        for frame in frames:
            if first.would(frame) != second.would(frame):
                return first.frames + (frame,), None
            here, there = first.twin(), second.twin()
            here.send(frame), there.send(frame)
            key = tuple(here.seers(host) for host in one.hosts)
            if key not in found:
                found.add(key)
                waiting.append((here, there))
                if here.outlook() not in outlooks:
                    outlooks.append(here.outlook())
    return None, tuple(sorted(outlooks))


def drawn(seed):
    """Two trees of the same hosts and a row of frames, drawn by lot, at which both often show the same."""
    dice = random.Random(seed)
    trees = dice.choice([FOUR, FOUR, FIVE])
    one, other = dice.sample(trees, 2)
    frames = []
    for frame in drawn_frames(seed, one.hosts, dice.randint(0, 14)):
        both = Play(one), Play(other)
        row = History.of(frames + [frame])
        if both[0].play(row) == both[1].play(row) or dice.random() < 0.3:
            frames.append(frame)
    return one, other, History.of(frames)


class Apart(Case):

    def test_beside_a_plain_search(self):
        kinds = {"None": 0, "ahead": 0, "behind": 0}
        lengths = set()
        for seed in range(250):
            one, other, history = drawn(seed)
            frames, outlooks = plain_steps(one, other, history)
            found = apart(one, other, history)
            self.same(found, None if frames is None else History.of(frames))
            self.same(closed(one, other, history), outlooks)
            self.same(shows_closed(one, other, history, outlooks), outlooks is not None)
            self.same(shows_apart(one, other, history, found), found is not None)
            if found is None:
                kinds["None"] += 1
            else:
                kinds["ahead" if len(found) <= len(history) else "behind"] += 1
                lengths.add(len(found) - len(history))
        self.assertGreater(min(kinds.values()), 8)
        self.assertGreater(max(lengths), 2)

    def test_the_examples_of_the_rule(self):
        self.same(str(apart(STAR, Tree.read("a b (c d)"), History())), "a *, b a, c b")
        self.same(apart(one=STAR, other=TWO, history=ROW + Frame("d", "a")), None)
        self.same(str(apart(STAR, TWO, ROW)), "b c, c b, a c, d c, a d")

    def test_frames_to_all_come_first(self):
        row = apart(STAR, TWO, History.read("a *"))
        frames, _ = plain_steps(STAR, TWO, History.read("a *"))
        self.same(row, History.of(frames))
        with_all = 0
        for one, other in permutations(FOUR, 2):
            for text in ("-", "a *", "b *", "a b", "c a, d *", "d a, b d", "a *, b *", "a *, b *, c *"):
                history = History.read(text)
                frames, _ = plain_steps(one, other, history)
                self.same(apart(one, other, history), None if frames is None else History.of(frames))
                with_all += frames is not None and any(frame.is_to_all for frame in frames[len(history):])
        self.assertGreater(with_all, 0)

    def test_unlike_sights_ahead(self):
        history = History.read("b c, c b, a c, a b, d c, c d")
        one, other = Tree.read("a (b c) d"), FOUR[0]
        self.same(str(apart(one, other, history)), "b c, c b, a c")
        self.same(closed(one, other, history), None)
        self.same(shows_apart(one, other, history, history.upto(3)), True)
        for many in (0, 1, 2, 4, 5, 6):
            self.same(shows_apart(one, other, history, history.upto(many)), False)
        self.same(shows_apart(one, other, history, history.upto(3) + Frame("a", "c")), False)
        self.same(shows_apart(one, other, history, History.read("c b, b c, a b")), False)
        self.same(shows_apart(one, other, History(), History.read("c b, b c, a b")), True)

    def test_longer_rows_than_the_shortest(self):
        shortest = apart(STAR, TWO, ROW)
        longer = ROW + Frame("a", "b") + History.of(shortest.frames[3:])
        self.same(shows_apart(STAR, TWO, ROW, longer), True)
        self.same(shows_apart(STAR, TWO, ROW.upto(2), longer), True)
        self.same(shows_apart(STAR, TWO, ROW, longer + Frame("a", "b")), False)
        self.same(shows_apart(STAR, TWO, ROW.swapped(0), longer), False)
        self.same(shows_apart(STAR, TWO, ROW + Frame("b", "a"), longer), False)

    def test_the_same_tree(self):
        for tree in [FOUR[0], FOUR[2], FIVE[0], FIVE[3], Tree.star("a"), Tree.star("a", "b"), Tree.star("a", "b", "c")]:
            row = History.of(drawn_frames(3, tree.hosts, 2))
            self.same(apart(tree, tree, row), None)
            self.same(closed(tree, tree, row), plain_steps(tree, tree, row)[1])
        self.same(closed(Tree.star("a"), Tree.star("a"), History()), (((),),))

    def test_closed_is_closed(self):
        for seed in range(250):
            one, other, history = drawn(seed)
            outlooks = closed(one, other, history)
            if outlooks is None:
                continue
            frames = list(frames_among(one.hosts, True))
            play, beside = Play(one), Play(other)
            play.play(history), beside.play(history)
            waiting, seen = [(play, beside)], []
            while waiting:
                play, beside = waiting.pop()
                self.assertIn(play.outlook(), outlooks)
                self.same(play.outlook(), beside.outlook())
                if play.outlook() not in seen:
                    seen.append(play.outlook())
                    for frame in frames:
                        waiting.append((play.twin(), beside.twin()))
                        self.same(waiting[-1][0].send(frame), waiting[-1][1].send(frame))
            self.same(sorted(seen), list(outlooks))

    def test_the_order_of_errors(self):
        six = [Tree.star(*letters(6)), Tree(*caterpillar_cuts(6))]
        long = History.of([Frame("a", "b")] * 41)
        other_host = History.of([Frame("x", "y")] * 41)
        for call in (apart, closed):
            self.raises(Unlike(), call, six[0], STAR, other_host)
            self.raises(Unlike(), call, FIVE[0], STAR, long)
            self.raises(Unlike(), call, Tree.star("a", "b", "c", "e"), STAR, History())
            self.raises(TooMany("hosts", 5), call, six[0], six[1], other_host)
            self.raises(TooMany("hosts", 5), call, six[0], six[0], History())
            self.raises(TooMany("frames", 40), call, STAR, TWO, other_host)
            self.raises(TooMany("frames", 40), call, STAR, STAR, long)
            self.raises(NoHost("x"), call, STAR, TWO, History.read("a b, y x, b c, c b, a c"))
            self.raises(NoHost("e"), call, STAR, TWO, History.read("z e"))
        self.same(apart(STAR, STAR, long.upto(40)), None)
        paper = closed(STAR, STAR, long.upto(40))
        self.same(shows_closed(STAR, STAR, long.upto(40), paper), True)
        for one, other, history in [
                (six[0], STAR, History()), (STAR, FIVE[0], History()), (six[0], six[1], History()),
                (STAR, STAR, long), (STAR, TWO, History.read("a x"))]:
            for value in [History.read("b c, c b, a d"), History.read("a b"), history, [], paper, None]:
                self.same([shows_apart(one, other, history, value), shows_closed(one, other, history, value)],
                          [False, False])
        row = History.read("b c, c b, a b")
        self.same(shows_apart(six[0], six[1], History(), History.read("c a, a c, b a, b c")), False)
        self.same(shows_apart(STAR, Tree.read("a (b d) c"), History(), row), False)

    def test_histories_at_the_bound(self):
        dice = random.Random(5)
        for one, other in [(STAR, TWO), (FIVE[0], FIVE[25]), (FIVE[7], FIVE[20])]:
            frames = []
            while len(frames) < 40:
                frame = dice.choice(list(frames_among(one.hosts, True)))
                row = History.of(frames + [frame])
                if Play(one).play(row) == Play(other).play(row):
                    frames.append(frame)
            row = History.of(frames)
            found = self.soon(apart, one, other, row)
            self.same([found, self.soon(closed, one, other, row)],
                      [found, plain_steps(one, other, row)[1]])


class Lookers(Case):

    def test_any_values(self):
        paper = closed(STAR, STAR, ROW)
        for value in any_values():
            self.same(shows_apart(STAR, TWO, ROW, value), False)
            self.same(shows_apart(STAR, TWO, History(), value), False)
            self.same(shows_closed(STAR, STAR, ROW, value), False)
            self.same(shows_closed(STAR, STAR, ROW, [*paper[1:], value]), False)
            self.same(shows_closed(STAR, STAR, ROW, [*paper[1:], (value,)]), False)
            self.same(shows_closed(STAR, STAR, ROW, [*paper[1:], ((value,),)]), False)
            self.same(shows_closed(STAR, STAR, ROW, [*paper[1:], (((value,),),)]), False)

    def test_apart_with_one_thing_otherwise(self):
        answers = {True: 0, False: 0}
        for seed in range(60):
            one, other, history = drawn(seed)
            found = apart(one, other, history)
            if found is None:
                continue
            dice = random.Random(seed)
            at = dice.randrange(len(found))
            frames = list(found)
            others = list(frames_among(one.hosts, True)) + [Frame("x", "a"), Frame("a", "x"), Frame("x")]
            values = [frames[:at] + [dice.choice(others)] + frames[at + 1:], frames[:at] + frames[at + 1:],
                      frames[:at] + [frames[at]] + frames[at:], frames + [dice.choice(others)], frames[:-1]]
            for row in values:
                value = History.of(row)
                sights = [Network(tree).play(value) for tree in (one, other)] if set(value.hosts) <= set(
                    one.hosts) else ((), ())
                unlike = [at for at, (a, b) in enumerate(zip(*sights)) if a != b]
                shorter = min(len(history), len(row))
                wanted = list(history)[:shorter] == row[:shorter] and unlike == [len(row) - 1] and bool(row)
                self.same(shows_apart(one, other, history, value), wanted)
                self.same(shows_apart(one, other, history, row), False)
                self.same(shows_apart(one, other, history, str(value)), False)
                answers[wanted] += 1
        self.assertGreater(min(answers.values()), 10)

    def test_closed_with_one_thing_otherwise(self):
        rows = [(STAR, STAR, ROW), (FOUR[1], FOUR[1], ROW), (STAR, TWO, ROW + Frame("d", "a"))]
        rows.extend(row for row in map(drawn, range(80)) if closed(*row) is not None)
        for one, other, history in rows:
            paper = closed(one, other, history)
            dice = random.Random(len(paper))
            mixed = list(paper)
            dice.shuffle(mixed)
            for value in (paper, list(paper), mixed, tuple(mixed)):
                self.same(shows_closed(one, other, history, value), True)
            at = dice.randrange(len(paper))
            item = paper[at]
            others = [(), item[:-1], item + item[:1], list(item), [list(row) for row in item], item[::-1], None, str(item),
                      (list(item[0]),) + item[1:], ((list(item[0][0]),) + item[0][1:],) + item[1:],
                      ((item[0][0] + ("x",),) + item[0][1:],) + item[1:], (((1,),) + item[0][1:],) + item[1:]]
            for thing in others:
                self.same(shows_closed(one, other, history, paper[:at] + (thing,) + paper[at + 1:]), False)
            for value in (paper[:at] + paper[at + 1:], paper + paper[at:at + 1], paper + (item[::-1],), (paper,), {},
                          dict(enumerate(paper)), History(), str(paper)):
                self.same(shows_closed(one, other, history, value), False)
            if len(paper) > 1:
                self.same(shows_closed(one, other, history, paper[:1] + paper[:-1]), False)

    def test_not_closed(self):
        for value in [(), [], None, closed(STAR, STAR, ROW)]:
            self.same(shows_closed(STAR, TWO, ROW, value), False)
        self.same(shows_closed(one=STAR, other=STAR, history=ROW, value=closed(STAR, STAR, ROW)), True)
        self.same(shows_apart(one=STAR, other=TWO, history=ROW, value=apart(STAR, TWO, ROW)), True)

    def test_what_is_returned_belongs_to_the_caller(self):
        row = ROW + Frame("d", "a")
        first = closed(STAR, TWO, row)
        self.same(closed(STAR, TWO, row), first)
        self.assertIs(type(first), tuple)


class Quick(Case):

    def test_at_the_bounds(self):
        for tree in FIVE[::5]:
            self.soon(closed, tree, tree, History())
            self.soon(closed, tree, tree, History.of([Frame("a", "b")] * 40))
        for one, other in [(FIVE[0], FIVE[1]), (FIVE[24], FIVE[25])]:
            self.soon(apart, one, other, History.of([Frame("a")] * 40))

    def test_ordinary_calls(self):
        rows = [drawn(seed) for seed in range(100)]
        start = time.perf_counter()
        for one, other, history in rows:
            apart(one, other, history), closed(one, other, history)
        self.assertLess((time.perf_counter() - start) / len(rows), 0.02)
