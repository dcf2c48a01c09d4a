from seenframes.errors import BadGround, BadHistory, BadNumber, NoHost
from seenframes.frames import Frame, History
from seenframes.networks import Network
from seenframes.plays import Play
from seenframes.rounds import Rounds
from seenframes.tables import Table
from seenframes.trees import Tree, all_trees
from seenframes.webs import Web
from tests.support import Case, any_values, caterpillar_cuts, drawn_cuts, drawn_frames, letters, no_grounds
from tests.test_players import no_trees_table
from tests.test_webs import WEB, drawn_web

TREE = Tree.read("a b (c (d e))")
ROW = History.read("d c, c d, e c")
MOST = 10 ** 40


def player(ground):
    """A player without frames."""
    return Play(ground) if isinstance(ground, Table) else Network(ground)


def grounds():
    """Grounds of each kind, drawn by lot, each with a row of frames."""
    found = [(WEB, 4), (TREE, 6), (Table.of_tree(TREE), 7), (Table(letters(5)), 5), (Tree.star("a"), 3)]
    found.extend((Web(*drawn_web(seed)), 1 + seed % 12) for seed in range(25))
    found.extend((Tree(*drawn_cuts(seed, 6)), 1 + seed % 9) for seed in range(15))
    found.extend((no_trees_table(seed, 4 + seed % 4), 1 + seed % 9) for seed in range(25))
    found.extend((tree, 5) for tree in all_trees(letters(5)))
    return [(ground, History.of(drawn_frames(at, ground.hosts, many))) for at, (ground, many) in enumerate(found)]


class Shown(Case):

    def test_rounds_beside_rows_that_are_played(self):
        unlike = 0
        for ground, row in grounds():
            rounds = Rounds(ground, row)
            beside = player(ground)
            counts = {host: 0 for host in ground.hosts}
            for k in range(5):
                for host in ground.hosts:
                    self.same([rounds.count(host, k), rounds.count(k=k, host=host)], [counts[host]] * 2)
                sights = beside.play(row)
                self.same(rounds.shown_in(k), sights)
                self.same(rounds.outlook(), beside.outlook())
                for sight in sights:
                    for host in sight:
                        counts[host] += 1
            self.same([rounds.opening, rounds.later, rounds.shown_in(k=0)],
                      [beside.sights[:len(row)], sights, rounds.opening])
            unlike += rounds.opening != rounds.later
        self.assertGreater(unlike, 20)

    def test_the_same_again_behind_other_questions(self):
        for ground, row in grounds():
            rounds = Rounds(ground, row)
            beside = player(ground)
            shown = [beside.play(row), beside.play(row)]
            for _ in range(2):
                self.same([rounds.opening, rounds.later, rounds.shown_in(0), rounds.shown_in(1)], shown * 2)
                host = ground.hosts[-1]
                rounds.outlook(), rounds.count(host, 3), rounds.least(host, 3)

    def test_all_later_rounds(self):
        for k in (1, 2, 3, 10 ** 9, MOST - 1, MOST):
            self.same(Rounds(TREE, ROW).shown_in(k), (("c",), ("d",), ("c",)))
        self.same(Rounds(TREE, ROW).shown_in(0), (("a", "b", "c", "e"), ("d",), ("c",)))

    def test_no_frames(self):
        rounds = Rounds(TREE, History())
        self.same([rounds.opening, rounds.later, rounds.shown_in(0), rounds.shown_in(MOST)], [(), (), (), ()])
        self.same(rounds.outlook(), Play(TREE).outlook())
        self.same([rounds.count("a", MOST), rounds.least("a", 0), rounds.least("a", 1), rounds.least("a", MOST)],
                  [0, 0, None, None])

    def test_one_host(self):
        for ground in (Tree.star("a"), Table(["a"]), Web([], {"a": 7})):
            rounds = Rounds(ground, History.read("a *, a *"))
            self.same([rounds.opening, rounds.later, rounds.outlook(), rounds.count("a", 9), rounds.least("a", 1)],
                      [((), ()), ((), ()), ((),), 0, None])

    def test_by_name(self):
        rounds = Rounds(history=ROW, ground=TREE)
        self.same([rounds.opening, rounds.least(count=3, host="c"), rounds.shown_in(k=1)],
                  [Rounds(TREE, ROW).opening, 2, rounds.later])

    def test_the_table_may_change(self):
        table = Table.of_tree(TREE)
        rounds = Rounds(table, ROW)
        outlook = rounds.outlook()
        for four in [("a", "b", "c", "d"), ("a", "b", "c", "e"), ("a", "b", "d", "e"), ("a", "c", "d", "e")]:
            table[four] = None
        self.same([rounds.outlook(), rounds.later], [outlook, Rounds(TREE, ROW).later])
        self.assertNotEqual(Rounds(table, ROW).outlook(), outlook)

    def test_nothing_changes(self):
        table = Table.of_tree(TREE)
        rounds = Rounds(table, ROW)
        kept = [rounds.opening, rounds.later, rounds.outlook()]
        rounds.outlook()
        rounds.shown_in(7)
        rounds.count("a", 7)
        rounds.least("a", 7)
        self.same([[rounds.opening, rounds.later, rounds.outlook()], table, len(ROW)], [kept, Table.of_tree(TREE), 3])


class Counts(Case):

    def test_least(self):
        for ground, row in grounds():
            rounds = Rounds(ground, row)
            for host in ground.hosts:
                most = rounds.count(host, 6)
                for count in range(most + 1):
                    k = rounds.least(host, count)
                    self.assertTrue(0 <= k <= 6 and rounds.count(host, k) >= count)
                    self.assertTrue(k == 0 or rounds.count(host, k - 1) < count)
                if rounds.count(host, 7) == most:
                    self.same(rounds.least(host, most + 1), None)

    def test_far_away(self):
        for ground, row in grounds():
            rounds = Rounds(ground, row)
            for host in ground.hosts:
                first = rounds.count(host, 1)
                more = rounds.count(host, 2) - first
                for k in (1, 2, 10 ** 20, MOST - 1, MOST):
                    count = rounds.count(host, k)
                    self.same(count, first + (k - 1) * more)
                    if 0 < more and count <= MOST:
                        self.same(rounds.least(host, count), k if k > 1 or first > 0 else 0)
                        if count < MOST:
                            self.same(rounds.least(host, count + 1), k + 1)
                    if more == 0:
                        self.same(rounds.least(host, MOST), None)

    def test_hosts_that_see_nothing_later(self):
        rounds = Rounds(TREE, ROW)
        self.same([rounds.count("a", k) for k in (0, 1, 2, MOST)], [0, 1, 1, 1])
        self.same([rounds.least("a", count) for count in (0, 1, 2, MOST)], [0, 1, None, None])
        self.same([rounds.count("c", k) for k in (0, 1, 2, MOST)], [0, 2, 4, 2 * MOST])
        self.same([rounds.least("c", count) for count in (0, 1, 2, 3, 4, 5, MOST)], [0, 1, 1, 2, 2, 3, MOST // 2])

    def test_hosts_that_see_nothing_at_first(self):
        # b sees a frame in each round from round 1 on alone: then c has a seer that is on b's way.
        found = []
        for seed in range(400):
            ground = no_trees_table(seed, 5)
            rounds = Rounds(ground, History.of(drawn_frames(seed, ground.hosts, 2)))
            for host in ground.hosts:
                found.append((rounds.count(host, 1), rounds.count(host, 2)))
                if found[-1][0] == 0:
                    self.same(rounds.least(host, 1), 2 if found[-1][1] > 0 else None)
        self.assertIn((0, 0), found)


class WrongArguments(Case):

    def test_grounds(self):
        for value in [*no_grounds(Web, Tree, Table), "a b", Play(TREE), Network(TREE), Rounds(TREE, ROW)]:
            self.raises(BadGround(value), Rounds, value, ROW)
            self.raises(BadGround(value), Rounds, value, value)
            self.raises(BadGround(value), Rounds, value, History.read("x y"))

    def test_histories(self):
        for value in [*any_values(), "a b", [Frame("a", "b")], Frame("a", "b"), ROW.frames, TREE]:
            if not isinstance(value, History):
                for ground in (TREE, WEB, Table.of_tree(TREE)):
                    self.raises(BadHistory(None), Rounds, ground, value)

    def test_hosts_of_the_row(self):
        for ground in (TREE, Web.of_tree(TREE), Table.of_tree(TREE)):
            self.raises(NoHost("f"), Rounds, ground, History.read("a b, z *, f a"))
            self.raises(NoHost("aa"), Rounds, ground, History.read("z aa"))

    def test_numbers(self):
        rounds = Rounds(TREE, ROW)
        for value in [*any_values(), MOST + 1, -1, -MOST, True, "1", 10 ** 59]:
            if type(value) is not int or not 0 <= value <= MOST:
                self.raises(BadNumber(value), rounds.shown_in, value)
                self.raises(BadNumber(value), rounds.count, "a", value)
                self.raises(BadNumber(value), rounds.least, "a", value)
        self.same([rounds.count("c", MOST), rounds.least("c", MOST)], [2 * MOST, MOST // 2])

    def test_hosts(self):
        rounds = Rounds(TREE, ROW)
        for value in [*any_values(), "f", ("a",), 0, TREE]:
            for k in (0, 1, -1, None, True, value):
                self.raises(NoHost(value), rounds.count, value, k)
                self.raises(NoHost(value), rounds.least, value, k)


class Bounds(Case):

    def test_the_greatest_ones(self):
        web = Web([(k, k + 1) for k in range(99)], {host: at * 5 for at, host in enumerate(letters(20))})
        for ground in (web, Tree(*caterpillar_cuts(40)), no_trees_table(1, 12)):
            rounds = self.soon(Rounds, ground, History.of(drawn_frames(1, ground.hosts, 60)))
            self.same(len(self.soon(rounds.outlook)), len(ground.hosts))
            for host in ground.hosts:
                self.soon(rounds.count, host, MOST)
                self.soon(rounds.least, host, MOST)
            self.same(len(rounds.shown_in(MOST)), 60)
