import random
import time
from itertools import combinations

from seenframes.clues import Clues, Strike, shows_strikes
from seenframes.errors import BadFour, BadFrame, BadHosts, BadIndex, BadSight, NoChange, NoHost, TooMany
from seenframes.frames import Frame, History
from seenframes.notes import Notes
from seenframes.partings import Parting, answers_of
from seenframes.plays import Play
from seenframes.records import Record
from seenframes.sieves import FIVES
from seenframes.tables import Table
from seenframes.trees import Tree, all_trees
from tests.support import (
    Case, any_values, caterpillar_cuts, drawn_cuts, drawn_frames, letters, no_grounds)
from tests.test_players import no_trees_table

ABCDE = letters(5)
FIVE_TREES = [{four: tree(*four) for four in combinations(ABCDE, 4)} for tree in all_trees(ABCDE)]


def clues_of(hosts, notes):
    clues = Clues(hosts)
    for frame, seen in notes:
        clues.note(frame, *seen)
    return clues


def telling_frames(seed, hosts):
    """Thirty frames that tell much: each host first sends to one that has sent."""
    dice = random.Random(seed)
    order = dice.sample(hosts, len(hosts))
    frames = [Frame(order[0], order[1])]
    frames.extend(Frame(host, dice.choice(order[:at + 1])) for at, host in enumerate(order[1:]))
    frames.extend(Frame(*dice.sample(hosts, 2)) for _ in range(30 - len(frames)))
    return frames


def notes_of(seed, tree, many, wrong=0.0, frames=None):
    """What all hosts of a tree see of frames that are drawn by lot; some sights are wrong."""
    dice = random.Random(seed)
    play = Play(tree)
    notes = []
    for frame in frames or drawn_frames(seed, tree.hosts, many):
        seen = list(play.send(frame))
        if dice.random() < wrong:
            host = dice.choice([host for host in tree.hosts if host != frame.sender])
            seen = [one for one in seen if one != host] if host in seen else seen + [host]
        notes.append((frame, tuple(seen)))
    return notes


class PlainSieve:
    """What is left, struck one answer at a time, straight from the rules of the document."""

    def __init__(self, hosts, notes):
        self.hosts, self.notes = hosts, notes
        self.left = {four: list(answers_of(four)) for four in combinations(hosts, 4)}
        self.rows = []
        seers = {host: set() for host in hosts}
        for frame, seen in notes:
            self.rows.append((frame, set(seen), set(seers.get(frame.target, ()))))
            seers[frame.sender] |= set(seen)

    def bars(self, row):
        (frame, seen, seers), others = row, set(self.hosts) - {row[0].sender}
        a, c = frame.sender, frame.target
        if c is not None and c not in seen or not seers and seen != others:
            return True
        return bool(seers) and any(h != c and ({h, a} & seers) for h in seen)

    def barred_by(self):
        """The reasons of rule 4."""
        found = [("barred", four) for four, answers in self.left.items() if not answers]
        return found + [("barred", at) for at, row in enumerate(self.rows) if self.bars(row)]

    def is_only(self, a, h, c, s):
        parting = Parting([a, h], [c, s])
        return self.left[parting.four] == [parting]

    def strikes_of_notes(self):
        for at, (frame, seen, seers) in enumerate(self.rows):
            a, c = frame.sender, frame.target
            for h in self.hosts:
                for s in seers - {a, h}:
                    if h in (a, c):
                        continue
                    parting = Parting([a, h], [c, s])
                    if h in seen:
                        for answer in self.left[parting.four]:
                            if answer != parting:
                                yield parting.four, answer, ("seen", at, h, s)
                    elif not {a, h} & seers and all(self.is_only(a, h, c, t) for t in seers - {s}):
                        if parting in self.left[parting.four]:
                            yield parting.four, parting, ("unseen", at, h, s)

    def strikes_of_fives(self):
        for five in combinations(self.hosts, 5):
            names = dict(zip(ABCDE, five))
            trees = [{tuple(names[host] for host in four): answer and Parting(
                [names[host] for host in answer.pairs[0]], [names[host] for host in answer.pairs[1]])
                for four, answer in tree.items()} for tree in FIVE_TREES]
            trees = [tree for tree in trees if all(tree[four] in self.left[four] for four in tree)]
            for four in combinations(five, 4):
                for answer in self.left[four]:
                    if not any(tree[four] == answer for tree in trees):
                        yield four, answer, ("five", five)

    def possible(self):
        """All strikes that a rule makes now."""
        found = list(self.strikes_of_notes()) + list(self.strikes_of_fives())
        for reason in self.barred_by():
            found.extend((four, answer, reason) for four, answers in self.left.items() for answer in answers)
        return found

    def strike(self, four, answer):
        self.left[four] = [one for one in self.left[four] if one != answer]

    def to_the_end(self, dice):
        """Strikes in an order drawn by lot; the list of the strikes."""
        struck = []
        found = self.possible()
        while found:
            struck.append(dice.choice(found))
            self.strike(*struck[-1][:2])
            found = self.possible()
        return struck

    def shows(self, value):
        """Whether any value is a tuple of Strikes that strike one behind the other."""
        if type(value) is not tuple:
            return False
        for strike in value:
            if type(strike) is not Strike:
                return False
            wanted = [row for row in self.possible() if row[0] == strike.four and row[1] == strike.answer
                      and row[2] == strike.reason and type(strike.reason) is tuple
                      and type(strike.reason[1]) is type(row[2][1])]
            if not wanted or type(strike.four) is not tuple:
                return False
            self.strike(strike.four, strike.answer)
        return True


def drawn(seed):
    """Hosts and notes, drawn by lot, some of which cannot be."""
    dice = random.Random(seed)
    many = dice.choice([4, 4, 5, 5, 5, 6])
    tree = Tree(*drawn_cuts(seed, many)) if dice.random() < 0.8 else Tree(*caterpillar_cuts(many))
    return tree, notes_of(seed, tree, dice.randint(0, 12), dice.choice([0, 0, 0, 0.05, 0.2]))


class Ends(Case):

    def test_beside_plain_striking_in_another_order(self):
        kinds = set()
        for seed in range(160):
            tree, notes = drawn(seed)
            if seed % 5 == 0:
                notes = notes_of(seed, tree, 30, frames=telling_frames(seed, tree.hosts))
            if seed % 5 == 1:
                tree = no_trees_table(seed, 4 + seed % 3)
                notes = notes_of(seed, tree, 30, frames=telling_frames(seed, tree.hosts))
            clues = clues_of(tree.hosts, notes)
            plain = PlainSieve(tree.hosts, notes)
            plain.to_the_end(random.Random(seed))
            for four in plain.left:
                self.same(clues.left(four), tuple(plain.left[four]))
                self.same(clues.left(list(four)[::-1]), tuple(plain.left[four]))
            self.same(clues.is_barred(), bool(plain.barred_by()))
            self.same(list(clues.told()), [(four, found[0]) for four, found in plain.left.items() if len(found) == 1])
            sure = all(len(found) == 1 for found in plain.left.values())
            self.same(clues.rebuilt() is not None, sure)
            if sure:
                self.same([clues.rebuilt()(*four) for four in plain.left], [found[0] for found in plain.left.values()])
            kinds.add((clues.is_barred(), sure))
        self.assertEqual(kinds, {(False, False), (False, True), (True, False)})

    def test_a_tree_that_fits_has_only_answers_that_are_left(self):
        for seed in range(80):
            dice = random.Random(seed)
            tree = Tree(*drawn_cuts(seed, dice.randint(4, 9)))
            clues = clues_of(tree.hosts, notes_of(seed, tree, dice.randint(0, 30)))
            self.same(clues.is_barred(), False)
            for four in combinations(tree.hosts, 4):
                self.assertIn(tree(*four), clues.left(four))
            for four, answer in clues.told():
                self.same(tree(*four), answer)

    def test_trees_that_fit_of_records(self):
        for seed in range(30):
            tree = Tree(*drawn_cuts(seed, 5))
            notes = notes_of(seed, tree, seed % 9, 0.1)
            record = Record(tree.hosts)
            for frame, seen in notes:
                record.note(frame, *seen)
            clues = clues_of(tree.hosts, notes)
            for other in record.fitting():
                self.assertTrue(all(other(*four) in clues.left(four) for four in combinations(tree.hosts, 4)))

    def test_the_rows_of_five_hosts(self):
        found = [tuple(1 << answers_of(four).index(tree[four]) for four in list(combinations(ABCDE, 4))[::-1])
                 for tree in FIVE_TREES]
        self.same(sorted(FIVES), sorted(found))

    def test_no_notes(self):
        for many in range(1, 10):
            clues = Clues(letters(many))
            self.same([clues.is_barred(), list(clues.told()), clues.strikes()], [False, [], ()])
            self.same(clues.rebuilt(), Tree.star(*letters(many)) if many < 4 else None)
            for four in combinations(letters(many), 4):
                self.same(clues.left(four), answers_of(four))

    def test_fewer_than_four_hosts(self):
        clues = Clues(["a", "b", "c"])
        clues.note(Frame("a", "b"), "b", "c")
        self.same([clues.is_barred(), clues.strikes(), clues.rebuilt()], [False, (), Tree.star("a", "b", "c")])
        clues.note(Frame("b", "c"), "a")
        self.same([clues.is_barred(), clues.strikes(), list(clues.told()), clues.rebuilt()],
                  [True, (), [], Tree.star("a", "b", "c")])
        self.raises(BadFour(("a", "b", "c", "a")), clues.left, ("a", "b", "c", "a"))
        one = Clues(["a"])
        one.note(Frame("a"))
        self.same([one.is_barred(), one.rebuilt()], [False, Tree.star("a")])

    def test_notes_that_cannot_be(self):
        ahead = [(Frame("b", "a"), ("a", "c", "d")), (Frame("c", "b"), ("b",))]
        for frame, seen, wrong in [
                (Frame("a", "b"), (), True), (Frame("a", "b"), ("c",), True), (Frame("a", "d"), ("d", "c"), True),
                (Frame("a", "d"), ("b", "c", "d"), False), (Frame("a"), ("b", "c"), True), (Frame("d"), (), True),
                (Frame("a"), ("b", "c", "d"), False), (Frame("d", "b"), ("b", "c"), True),
                (Frame("a", "b"), ("b", "c"), True), (Frame("d", "c"), ("c", "a"), False),
                (Frame("d", "c"), ("c", "b"), True), (Frame("b", "c"), ("c",), False),
                (Frame("b", "c"), ("c", "a"), True), (Frame("a", "c"), ("d",), True)]:
            clues = clues_of(letters(4), ahead + [(frame, seen)])
            self.same(clues.is_barred(), wrong)
            self.same(clues.left(letters(4)) == (), wrong)
            self.same(shows_strikes(clues, (Strike(letters(4), None, ("barred", 2)),)), wrong)
            self.same(shows_strikes(clues, (Strike(letters(4), None, ("barred", 1)),)), False)

    def test_seen_alone(self):
        clues = clues_of(letters(4), [(Frame("a", "b"), ("b", "c", "d")), (Frame("b", "a"), ("a",))])
        self.same(len(clues.left(letters(4))), 4)
        clues.note(Frame("c", "b"), "b", "d")
        self.same(clues.left(letters(4)), (Parting(["a", "b"], ["c", "d"]),))
        self.same([one.reason for one in clues.strikes()], [("seen", 2, "d", "a")] * 3)
        self.same([one.answer for one in clues.strikes()],
                  [answer for answer in answers_of(letters(4)) if answer != Parting(["a", "b"], ["c", "d"])])

    def test_unseen_alone(self):
        clues = clues_of(letters(4), [(Frame("a", "b"), ("b", "c", "d")), (Frame("b", "a"), ("a",)),
                                      (Frame("c", "b"), ("b",))])
        self.same(clues.left(letters(4)), tuple(one for one in answers_of(letters(4)) if str(one) != "a b / c d"))
        self.same(clues.strikes(), (Strike(letters(4), Parting(["a", "b"], ["c", "d"]), ("unseen", 2, "d", "a")),))

    def test_barred_by_a_four(self):
        clues = clues_of(letters(4), [(Frame("a", "b"), ("b", "c", "d")), (Frame("b", "a"), ("a",)),
                                      (Frame("c", "b"), ("b", "d")), (Frame("d", "a"), ("a", "b", "c"))])
        self.same(clues.is_barred(), True)
        self.same([one.reason for one in clues.strikes()], [("barred", 3)] * 4)
        clues.back()
        clues.note(Frame("d", "c"), "c")
        clues.note(Frame("a", "c"), "c", "b")
        self.same([clues.is_barred(), clues.left(letters(4)), list(clues.told()), clues.rebuilt()],
                  [True, (), [], None])

    def test_the_answers_belong_to_the_caller(self):
        clues = clues_of(letters(5), notes_of(3, Tree(*drawn_cuts(3, 5)), 9))
        first = [clues.strikes(), list(clues.told())]
        list(clues.told()).clear()
        self.same([clues.strikes(), list(clues.told())], first)

    def test_told_is_as_the_clues_are_at_the_first_request(self):
        tree = Tree(*caterpillar_cuts(5))
        rows = [notes_of(0, tree, 30, frames=telling_frames(seed, tree.hosts)) for seed in range(40)]
        notes = max(rows, key=lambda row: len(list(clues_of(tree.hosts, row).told())))
        clues = clues_of(tree.hosts, notes)
        whole = list(clues.told())
        self.assertEqual(len(whole), 5)
        made = clues.told()
        self.assertIs(iter(made), made)
        clues = clues_of(tree.hosts, [])
        made = clues.told()
        for frame, seen in notes:
            clues.note(frame, *seen)
        self.same(next(made), whole[0])
        while len(clues):
            clues.back()
        self.same(list(made), whole[1:])
        self.same(list(clues.told()), [])

    def test_wrong_fours(self):
        clues = Clues(letters(5))
        for value in any_values():
            self.raises(BadFour(value), clues.left, value)
        for value in [("a", "b", "c"), ("a", "b", "c", "d", "e"), ["a", "b", "c", "x"], ("a", "b", "c", "c"),
                      "abcd", {"a": 1, "b": 1, "c": 1, "d": 1}, ("a", "b", "c", None), ("a", "b", "c", ["d"])]:
            self.raises(BadFour(value), clues.left, value)
        self.same(clues.left(four=["d", "a", "c", "b"]), answers_of(letters(4)))


def told_as(strikes):
    return tuple(Strike(*row) for row in strikes)


def otherwise(dice, hosts, strikes, at):
    """The strikes, where one of them has one thing otherwise."""
    four, answer, reason = strikes[at].four, strikes[at].answer, strikes[at].reason
    made = [Strike(list(four), answer, reason), Strike(four[::-1], answer, reason), Strike(four, answer, list(reason)),
            Strike(tuple(dice.sample(hosts, 4)), answer, reason), Strike(four, str(answer), reason),
            Strike(four, answer, reason[:1]), Strike(four, answer, reason + (0,)), Strike(four, answer, ()),
            Strike(four, answer, None), (four, answer, reason), None]
    made.extend(Strike(four, other, reason) for other in answers_of(four))
    made.extend(Strike(tuple(sorted(dice.sample(hosts, 4))), answer, reason) for _ in range(3))
    for k in range(len(reason)):
        for value in ["seen", "unseen", "five", "barred", 0, 1, True, False, -1, 99, None, dice.choice(hosts), "x",
                      tuple(hosts[:4]), tuple(hosts[-4:]), tuple(hosts[:5]), tuple(hosts[::-1][:5]), list(hosts[:5]),
                      [0], {}, dice.choice(hosts), ["a"]]:
            made.append(Strike(four, answer, reason[:k] + (value,) + reason[k + 1:]))
    return [strikes[:at] + (one,) + strikes[at + 1:] for one in made]


class Shows(Case):

    def test_what_strikes_tells(self):
        reasons = set()
        for seed in range(120):
            tree, notes = drawn(seed)
            clues = clues_of(tree.hosts, notes)
            strikes = clues.strikes()
            plain = PlainSieve(tree.hosts, notes)
            for strike in strikes:
                self.assertIs(type(strike), Strike)
                self.assertIn((strike.four, strike.answer, strike.reason), plain.possible())
                plain.strike(strike.four, strike.answer)
                reasons.add(strike.reason[0])
            self.same({four: clues.left(four) for four in plain.left},
                      {four: tuple(found) for four, found in plain.left.items()})
            self.same(plain.possible(), [])
            self.same(clues.strikes(), strikes)
            for many in range(len(strikes) + 1):
                self.same(shows_strikes(clues, strikes[:many]), True)
            if strikes:
                self.same(shows_strikes(clues, strikes + strikes[:1]), False)
                self.same(shows_strikes(clues, strikes + strikes[-1:]), False)
                self.same(shows_strikes(clues, list(strikes)), False)
        self.assertEqual(reasons, {"seen", "unseen", "five", "barred"})

    def test_a_four_without_answers_bars_all(self):
        found = 0
        for seed in range(40):
            table = no_trees_table(seed, 5 + seed % 2)
            notes = notes_of(seed, table, 0, frames=telling_frames(seed, table.hosts))
            plain = PlainSieve(table.hosts, notes)
            clues = clues_of(table.hosts, notes)
            self.same(plain.barred_by(), [])
            if clues.is_barred():
                for strike in clues.strikes():
                    self.assertIn((strike.four, strike.answer, strike.reason), plain.possible())
                    plain.strike(strike.four, strike.answer)
                self.same([answers for answers in plain.left.values() if answers], [])
                self.same(len(clues.strikes()), 4 * len(plain.left))
                found += clues.strikes()[-1].reason[0] == "barred"
        self.assertGreater(found, 4)

    def test_strikes_in_another_order(self):
        early = 0
        for seed in range(80):
            tree, notes = drawn(seed)
            clues = clues_of(tree.hosts, notes)
            dice = random.Random(seed)
            value = told_as(PlainSieve(tree.hosts, notes).to_the_end(dice))
            self.same(shows_strikes(clues, value), True)
            mixed = list(value)
            dice.shuffle(mixed)
            wanted = PlainSieve(tree.hosts, notes).shows(tuple(mixed))
            self.same(shows_strikes(clues, tuple(mixed)), wanted)
            early += not wanted
        self.assertGreater(early, 9)

    def test_one_thing_otherwise(self):
        answers = {True: 0, False: 0}
        for seed in range(45):
            tree, notes = drawn(seed)
            dice = random.Random(seed)
            clues = clues_of(tree.hosts, notes)
            strikes = clues.strikes()[:8] if seed % 2 else told_as(PlainSieve(tree.hosts, notes).to_the_end(dice))[:8]
            if strikes:
                for value in otherwise(dice, tree.hosts, strikes, dice.randrange(len(strikes))):
                    wanted = PlainSieve(tree.hosts, notes).shows(value)
                    self.same(shows_strikes(clues, value), wanted)
                    answers[wanted] += 1
        self.assertGreater(min(answers.values()), 40)

    def test_each_kind_of_reason_otherwise(self):
        many = {}
        for seed in range(36):
            tree = Tree(*caterpillar_cuts(4 + seed % 3)) if seed % 2 else Tree(*drawn_cuts(seed, 4 + seed % 3))
            hosts, dice = tree.hosts, random.Random(seed)
            notes = notes_of(seed, tree, 0, 0.05 if seed % 4 == 0 else 0, telling_frames(seed, hosts)[:18])
            clues, plain = clues_of(hosts, notes), PlainSieve(hosts, notes)
            struck = plain.to_the_end(dice)
            kinds = {}
            for at, row in enumerate(struck):
                kinds.setdefault((row[2][0], len(row[2][1]) if row[2][0] == "barred" and row[2][1] in plain.left else 0),
                                 []).append(at)
            for kind, places in kinds.items():
                at = dice.choice(places)
                plain = PlainSieve(hosts, notes)
                for row in struck[:at]:
                    plain.strike(*row[:2])
                possible = plain.possible()
                four, answer, reason = struck[at]
                rows = [(other, further, reason) for other in combinations(hosts, 4) for further in answers_of(other)]
                things = [*hosts, *range(-1, len(notes) + 1), *combinations(hosts, 4), *combinations(hosts, 5), "seen",
                          "unseen", "five", "barred"]
                rows.extend((four, further, reason[:k] + (thing,) + reason[k + 1:]) for k in range(len(reason))
                            for thing in things for further in answers_of(four))
                for row in rows:
                    wanted = row in possible
                    self.same(shows_strikes(clues, told_as(struck[:at] + [row])), wanted)
                    many[kind + (wanted,)] = many.get(kind + (wanted,), 0) + 1
        for kind in [("seen", 0), ("unseen", 0), ("five", 0), ("barred", 0), ("barred", 4)]:
            self.assertGreater(min(many[kind + (True,)], many[kind + (False,)]), 15, many)

    def test_wrong_values(self):
        clues = clues_of(ABCDE, notes_of(2, Tree(*drawn_cuts(2, 5)), 12))
        right = clues.strikes()[0]
        self.same(shows_strikes(clues, (right,)), True)
        for value in any_values():
            if value != ():
                self.same(shows_strikes(clues, value), False)
            self.same(shows_strikes(clues, (value,)), False)
            self.same(shows_strikes(clues, (right, value)), False)
            for strike in (Strike(value, right.answer, right.reason), Strike(right.four, right.answer, value),
                           Strike(right.four, right.answer, ("five", value)),
                           Strike(right.four, right.answer, ("barred", value)),
                           Strike(right.four, right.answer, (value, *right.reason[1:])),
                           Strike(right.four, right.answer, (*right.reason[:-1], value)),
                           Strike(right.four, right.answer, ("seen", value, "a", "b")),
                           Strike(right.four, right.answer, ("unseen", 0, value, value))):
                self.same(shows_strikes(clues, (strike,)), False)
            if value is not None:
                self.same(shows_strikes(clues, (Strike(right.four, value, right.reason),)), False)
        self.same(shows_strikes(clues=clues, value=()), True)

    def test_nothing_changes(self):
        clues = clues_of(ABCDE, notes_of(2, Tree(*drawn_cuts(2, 5)), 12))
        before = [clues.left(four) for four in combinations(ABCDE, 4)]
        value = clues.strikes()
        shows_strikes(clues, value), shows_strikes(clues, value[::-1])
        self.same([clues.left(four) for four in combinations(ABCDE, 4)], before)
        self.same(len(clues), 12)

    def test_strikes_as_papers(self):
        for value in any_values():
            paper = Strike(value, [value], (value,))
            self.assertIs(paper.four, value)
            self.same([paper.answer, paper.reason], [[value], (value,)])
            self.assertTrue(paper == Strike(four=value, answer=[value], reason=(value,)))
            self.assertFalse(paper != Strike(value, [value], (value,)))
            self.assertTrue(paper != value)
            for other in (Strike((value,), [value], (value,)), Strike(value, value, (value,)),
                          Strike(value, [value], [value])):
                self.assertTrue(paper != other)
                self.assertFalse(paper == other)


class AsNotes(Case):

    def test_made(self):
        self.assertTrue(issubclass(Clues, Notes))
        clues = Clues(["c", "a"])
        self.same([clues.hosts, clues.watchers, clues.history, len(clues)], [("a", "c"), ("a", "c"), History(), 0])
        self.same([Clues.MOST, Clues.LONGEST, clues.MOST, clues.LONGEST], [9, 30, 9, 30])
        self.same(Clues(hosts=letters(9)).hosts, letters(9))
        self.raises(TooMany("hosts", 9), Clues, letters(10))
        self.raises(BadHosts(10), Clues, [*letters(10), "a"])
        for value in no_grounds(list, tuple):
            self.raises(BadHosts(None), Clues, value)
        self.raises(BadHosts(None), Clues, [])
        self.raises(BadHosts(0), Clues, [["a"]])

    def test_notes(self):
        clues = Clues(letters(4))
        self.assertIsNone(clues.note(Frame("a", "b"), "d", "b", "c"))
        self.assertIsNone(clues.note(frame=Frame("b")))
        kept = clues
        clues += (Frame("c", "d"), ["d", "a"])
        self.assertIs(clues, kept)
        self.same([clues[0], clues[1], clues[2]], [(Frame("a", "b"), ("b", "c", "d")), (Frame("b"), ()),
                                                   (Frame("c", "d"), ("a", "d"))])
        self.same(clues.history, History.read("a b, b *, c d"))
        self.same([clues.back(), len(clues)], [(Frame("c", "d"), ("a", "d")), 2])
        for value in no_grounds(int) + [True, False, -1, 2, 10 ** 59]:
            self.raises(BadIndex(value), clues.__getitem__, value)
        with self.assertRaises(TypeError):
            iter(clues)

    def test_the_order_of_errors(self):
        clues = Clues(letters(4))
        for _ in range(30):
            clues.note(Frame("a"), "b", "c", "d")
        self.raises(BadFrame("frame"), clues.note, "a b", "x")
        self.raises(NoHost("x"), clues.note, Frame("x", "y"), "x")
        self.raises(NoHost("y"), clues.note, Frame("a", "y"), "x")
        self.raises(BadSight("x"), clues.note, Frame("a", "b"), "b", "x", "a")
        self.raises(BadSight("a"), clues.note, Frame("a", "b"), "b", "a", "x")
        self.raises(BadSight("b"), clues.note, Frame("a", "b"), "b", "b")
        self.raises(TooMany("notes", 30), clues.note, Frame("a", "b"), "b")
        for value in any_values():
            self.raises(BadSight(value), clues.__iadd__, value)
            self.raises(BadSight(value), clues.note, Frame("a", "b"), value)
            if not isinstance(value, Frame):
                self.raises(BadFrame("frame"), clues.note, value)
                self.raises(BadFrame("frame"), clues.__iadd__, (value, []))
            if not isinstance(value, (list, tuple)):
                self.raises(BadSight((Frame("a"), value)), clues.__iadd__, (Frame("a"), value))
        self.raises(BadSight([Frame("a"), []]), clues.__iadd__, [Frame("a"), []])
        self.raises(TooMany("notes", 30), clues.__iadd__, (Frame("a"), []))
        self.same([len(clues), clues.back()], [30, (Frame("a"), ("b", "c", "d"))])
        clues.note(Frame("d"))
        self.same([len(clues), clues[29]], [30, (Frame("d"), ())])

    def test_back(self):
        clues = Clues(["a", "b"])
        self.raises(NoChange(), clues.back)
        clues.note(Frame("a"), "b")
        clues.back()
        self.raises(NoChange(), clues.back)

    def test_answers_follow_the_notes(self):
        tree = Tree(*caterpillar_cuts(5))
        notes = notes_of(4, tree, 12)
        fours = list(combinations(tree.hosts, 4))
        wanted = []
        for many in range(13):
            wanted.append([clues_of(tree.hosts, notes[:many]).left(four) for four in fours])
        clues = Clues(tree.hosts)
        for many in range(13):
            self.same([clues.left(four) for four in fours], wanted[many])
            if many < 12:
                clues.note(notes[many][0], *notes[many][1])
        twin = clues.twin()
        while len(clues):
            clues.back()
            self.same([clues.left(four) for four in fours], wanted[len(clues)])
            self.same([twin.left(four) for four in fours], wanted[12])
        clues.note(Frame("a"), "b")
        self.same(clues.is_barred(), True)

    def test_twins_trials_and_equality(self):
        clues = clues_of(letters(4), [(Frame("a", "b"), ("b", "c", "d"))])
        twin = clues.twin()
        self.assertIs(type(twin), Clues)
        self.assertTrue(twin == clues)
        twin.note(Frame("b", "a"), "a")
        self.assertTrue(twin != clues)
        with clues.trial() as same:
            self.assertIs(same, clues)
            same.note(Frame("b", "a"), "a")
            same.note(Frame("c", "b"), "b", "d")
            self.same(same.left(letters(4)), (Parting(["a", "b"], ["c", "d"]),))
            with same.trial():
                same.back()
                self.assertTrue(same == twin)
            self.same(len(same), 3)
        self.same([len(clues), len(clues.left(letters(4)))], [1, 4])
        self.raises(BadSight("x"), clues.tried, lambda same: same.back() and same.note(Frame("a"), "x"))
        self.same([len(clues), clues.tried(lambda same: [same.back(), len(same)])],
                  [1, [(Frame("a", "b"), ("b", "c", "d")), 0]])
        record = Record(letters(4))
        record.note(Frame("a", "b"), "b", "c", "d")
        self.assertFalse(clues == record or record == clues)
        self.assertFalse(clues == Clues(letters(4)) or clues == clues_of(letters(5), []))
        for value in any_values():
            self.assertTrue(clues != value)

    def test_bounds(self):
        for seed in range(8):
            tree = Tree(*drawn_cuts(seed, 9)) if seed else Tree(*caterpillar_cuts(9))
            notes = notes_of(seed, tree, 30, 0.02 if seed > 5 else 0)
            clues = clues_of(tree.hosts, notes)
            self.soon(clues.left, letters(4))
            strikes = self.soon(clues.strikes)
            self.same(self.soon(shows_strikes, clues, strikes), True)
            self.soon(lambda: [clues.left(four) for four in combinations(tree.hosts, 4)])
            self.soon(clues.rebuilt)

    def test_ordinary_calls_are_quick(self):
        rows = [notes_of(seed, Tree(*drawn_cuts(seed, 5)), 12) for seed in range(40)]
        start = time.perf_counter()
        for notes in rows:
            clues = clues_of(ABCDE, notes)
            clues.left(letters(4)), clues.rebuilt(), shows_strikes(clues, clues.strikes())
        self.assertLess((time.perf_counter() - start) / len(rows), 0.02)

    def test_many_questions_behind_the_same_notes(self):
        tree = Tree(*caterpillar_cuts(9))
        clues = clues_of(tree.hosts, notes_of(1, tree, 30))
        start = time.perf_counter()
        for _ in range(1000):
            clues.left(letters(4)), clues.is_barred()
        self.assertLess(time.perf_counter() - start, 1)

    def test_all_is_told_where_each_four_has_one_answer(self):
        found = 0
        for seed in range(60):
            tree = Tree(*caterpillar_cuts(5 + seed % 2))
            clues = clues_of(tree.hosts, notes_of(seed, tree, 30, frames=telling_frames(seed, tree.hosts)))
            if clues.rebuilt() is not None:
                self.same(clues.rebuilt(), tree)
                self.same({four: answer for four, answer in clues.told()},
                          {four: Table.of_tree(tree)[four] for four in combinations(tree.hosts, 4)})
                found += 1
        self.assertGreater(found, 0)
