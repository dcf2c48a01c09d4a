from itertools import combinations, product

from seenframes.errors import BadGround
from seenframes.frames import Frame, History, frames_among
from seenframes.networks import Network
from seenframes.partings import Parting, answers_of
from seenframes.plays import Play
from seenframes.tables import Table
from seenframes.trees import Tree, all_trees
from seenframes.webs import Web
from tests.support import Case, PlainPlay, drawn_cuts, drawn_frames, letters, no_grounds
from tests.test_players import no_trees_table
from tests.test_webs import WEB

TREE = Tree.read("a b (c (d e))")


class Made(Case):

    def test_wrong_grounds(self):
        for value in [*no_grounds(Tree, Table), "a b (c d)", WEB, Web.of_tree(TREE), Play(TREE), Network(TREE)]:
            self.raises(BadGround(value), Play, value)

    def test_a_twin_of_the_table(self):
        table = Table.of_tree(TREE)
        play = Play(ground=table)
        twin = play.twin()
        for four in combinations(table.hosts, 4):
            table[four] = None
        self.same([play == Play(table), play == Play(Table.of_tree(TREE)), twin == play], [False, True, True])
        for one in (play, twin, play.twin()):
            other = Play(TREE)
            row = History.of(drawn_frames(1, TREE.hosts, 30))
            self.same([one.play(row), one.outlook()], [other.play(row), other.outlook()])

    def test_the_table_stays(self):
        table = no_trees_table(3, 6)
        kept = table.twin()
        play = Play(table)
        play.play(History.of(drawn_frames(1, table.hosts, 30)))
        play.tried(lambda same: same.reset())
        self.same(table, kept)


class ByTheRule(Case):
    """Plays beside the rule, told plainly."""

    def same_along(self, play, plain, frames):
        """Both show the same along a row of frames."""
        for frame in frames:
            self.same(play.send(frame), plain.send(frame))
        self.same([play.seers(host) for host in play.hosts],
                  [tuple(sorted(plain.seers[host])) for host in play.hosts])

    def test_trees(self):
        for many in range(1, 6):
            for tree in all_trees(letters(many)):
                for seed in range(4):
                    self.same_along(Play(tree), PlainPlay(tree.hosts, tree), drawn_frames(seed, tree.hosts, 15))
        for seed in range(40):
            tree = Tree(*drawn_cuts(seed, 5 + seed % 9))
            self.same_along(Play(tree), PlainPlay(tree.hosts, tree), drawn_frames(seed, tree.hosts, 25))

    def test_tables(self):
        for seed in range(60):
            table = no_trees_table(seed, 4 + seed % 5)
            self.same_along(Play(table), PlainPlay(table.hosts, table), drawn_frames(seed, table.hosts, 25))
        table = no_trees_table(61, 12)
        self.same_along(Play(table), PlainPlay(table.hosts, table), drawn_frames(61, table.hosts, 40))

    def test_all_rows_of_three_frames(self):
        frames = list(frames_among(letters(4), True))
        for answer in answers_of(letters(4)):
            table = Table(letters(4))
            table[letters(4)] = answer
            for first, second in product(frames, frames):
                plain = PlainPlay(table.hosts, table)
                play = Play(table)
                self.same(play.play(History(first, second)), (plain.send(first), plain.send(second)))
                for frame in frames:
                    seers = {host: set(seen) for host, seen in plain.seers.items()}
                    self.same(play.would(frame), plain.send(frame))
                    plain.seers = seers

    def test_a_seer_that_sends(self):
        play = Play(TREE)
        play.send(Frame("c"))
        self.same([play.would(Frame(host, "c")) for host in "abde"], [("c",)] * 4)

    def test_two_seers(self):
        # b sees a frame of a to c only if both seers of c are parted from a and b together with it.
        table = Table(letters(5))
        for answers, wanted in [(("a b / c d", "a b / c e"), ("b", "c")), (("a b / c d",), ("c",)),
                                (("a b / c e", "a c / b d"), ("c",))]:
            with table.trial():
                for text in answers:
                    table[Parting.read(text).four] = Parting.read(text)
                tree = Tree.read("a b (c d e)")
                play = Play(table)
                # A table of no tree, by which c is seen by d and e alone at its second frame.
                play.state = [(Frame("c"), ("d", "e"), {"c": ("d", "e")})]
                self.same(play.would(Frame("a", "c")), wanted)
                self.same(Play(tree).would(Frame("a", "c")), ("b", "c", "d", "e"))


class Facts(Case):

    def test_three_frames_tell_what_parting_holds(self):
        for tree in all_trees(letters(5)):
            for a, h, b, c in [tuple(four) for some in combinations(letters(5), 4)
                               for four in (some, some[::-1], some[1:] + some[:1], some[2:] + some[:2])]:
                play = Play(tree)
                play.play(History(Frame(b, c), Frame(c, b)))
                self.same(h in play.send(Frame(a, c)), tree(a, h, b, c) == Parting([a, h], [b, c]))

    def test_two_frames_tell_nothing(self):
        frames = list(frames_among(letters(4), True))
        star = Tree.star(*letters(4))
        for tree in all_trees(letters(4)):
            for first, second in product(frames, frames):
                row = History(first, second)
                self.same(Play(tree).play(row), Play(star).play(row))
        for tree in list(all_trees(letters(6)))[::9]:
            play, other = Network(tree), Play(Tree.star(*letters(6)))
            for first in frames_among(letters(6), True):
                self.same(play.send(first), other.send(first))
                for second in frames_among(letters(6), True):
                    self.same(play.would(second), other.would(second))
                play.reset()
                other.reset()
