"""What networks and plays have in common."""

import random
from itertools import combinations

from seenframes.errors import BadFrame, NoChange, NoHost
from seenframes.frames import Frame, History, frames_among
from seenframes.networks import Network
from seenframes.partings import Parting, answers_of
from seenframes.players import Player
from seenframes.plays import Play
from seenframes.tables import Table
from seenframes.trees import Tree, all_trees
from seenframes.webs import Web
from tests.support import Case, any_values, caterpillar_cuts, drawn_cuts, drawn_frames, letters
from tests.test_webs import WEB, drawn_web

TREE = Tree.read("a b (c (d e))")
ROW = History.read("b c, c b, a c, d *, e a, c d")


def no_trees_table(seed, many):
    """A table of so many hosts with answers that are drawn by lot."""
    dice = random.Random(seed)
    table = Table(letters(many))
    for four in combinations(table.hosts, 4):
        table[four] = dice.choice(answers_of(four))
    return table


def players():
    """Players of each kind without frames, all of which have the hosts a to d at least."""
    return [Network(WEB), Network(TREE), Network(Web([], {host: 7 for host in "abcd"})), Play(TREE),
            Play(Table.of_tree(TREE)), Play(no_trees_table(5, 6)), Play(Table(letters(4)))]


def played():
    """The same with frames."""
    found = players()
    for player in found:
        for frame in drawn_frames(4, player.hosts, 9):
            player.send(frame)
    return found


def all_of(player):
    """All that can be told of a player."""
    loose = [list(player.loose(host)) for host in player.hosts]
    seers = [player.seers(host) for host in player.hosts]
    return [player.hosts, player.frames, player.sights, len(player), player.outlook(), loose, seers]


class Sending(Case):

    def test_a_new_player(self):
        for player in players():
            self.same([player.frames, player.sights, len(player)], [(), (), 0])
            self.same([player.seers(host) for host in player.hosts], [()] * len(player.hosts))
            self.assertIsInstance(player, Player)
        self.same([player.hosts for player in players()],
                  [letters(4), letters(5), letters(4), letters(5), letters(5), letters(6), letters(4)])

    def test_send(self):
        for player in players():
            sights = []
            for at, frame in enumerate(drawn_frames(1, player.hosts, 30)):
                would = player.would(frame)
                sights.append(player.send(frame))
                self.same([would, player.frames[at], player.sights, len(player)],
                          [sights[-1], frame, tuple(sights), at + 1])
                self.same([type(player.frames), type(sights[-1])], [tuple, tuple])
        player = Play(TREE)
        self.same([player.send(frame=Frame("a", "b")), player.would(frame=Frame("c", "a"))],
                  [("b", "c", "d", "e"), ("a",)])

    def test_in_place(self):
        for player, other in zip(players(), players()):
            same = player
            for frame in drawn_frames(2, player.hosts, 12):
                player += frame
                other.send(frame)
            self.assertIs(player, same)
            self.same([player, all_of(player)], [other, all_of(other)])

    def test_play(self):
        for player, other in zip(played(), played()):
            sights = player.play(ROW.upto(4))
            self.same([sights, player.play(History()), player.play(history=ROW.upto(1))],
                      [tuple([other.send(frame) for frame in ROW.upto(4)]), (), (other.send(ROW[0]),)])
            self.same([player, len(player)], [other, 14])

    def test_more_than_sixty_frames(self):
        for player in players():
            row = History.of(drawn_frames(3, player.hosts, 60))
            first = self.soon(player.play, row)
            second = self.soon(player.play, row)
            for frame in row.frames[:20]:
                player += frame
            self.same([len(player), len(player.frames), player.sights[:120]], [140, 140, first + second])
            player.back()
            self.same(len(player), 139)

    def test_the_target_sees_the_sender_does_not(self):
        for player in players() + [Network(Web(*drawn_web(seed))) for seed in range(30)]:
            for frame in drawn_frames(5, player.hosts, 40):
                sight = player.send(frame)
                self.assertNotIn(frame.sender, sight)
                self.assertTrue(frame.target is None or frame.target in sight)
                self.same(sight, tuple(sorted(set(sight))))

    def test_to_all(self):
        for player in played():
            for host in player.hosts:
                others = tuple([other for other in player.hosts if other != host])
                self.same([player.would(Frame(host)), player.send(Frame(host))], [others, others])

    def test_one_host(self):
        for player in [Network(Web([(0, 1)], {"a": 1})), Network(Tree.star("a")), Play(Tree.star("a")),
                       Play(Table(["a"]))]:
            self.same([player.send(Frame("a")), player.seers("a"), player.outlook(), list(player.loose("a"))],
                      [(), (), ((),), []])
            self.raises(NoHost("b"), player.send, Frame("a", "b"))
            self.same([player.play(History(Frame("a"))), len(player)], [((),), 2])


class WrongArguments(Case):

    def test_no_frame(self):
        for player in played():
            now = all_of(player)
            for value in [*any_values(), "a b", ("a", "b"), History(Frame("a", "b")), player]:
                if not isinstance(value, Frame):
                    self.raises(BadFrame("frame"), player.send, value)
                    self.raises(BadFrame("frame"), player.would, value)
                    with self.assertRaises(BadFrame) as caught:
                        player += value
                    self.same_error(caught.exception, BadFrame("frame"))
            self.same(all_of(player), now)

    def test_no_host(self):
        for player in played():
            now = all_of(player)
            for call in (player.send, player.would, player.__iadd__):
                self.raises(NoHost("x"), call, Frame("x"))
                self.raises(NoHost("x"), call, Frame("x", "b"))
                self.raises(NoHost("x"), call, Frame("b", "x"))
                self.raises(NoHost("z"), call, Frame("z", "x"))
                self.raises(NoHost("aa"), call, Frame("aa", "x"))
            self.same(all_of(player), now)

    def test_no_host_of_a_history(self):
        for player in played():
            now = all_of(player)
            self.raises(NoHost("x"), player.play, History.read("a b, z *, x a"))
            self.raises(NoHost("aa"), player.play, History.read("a b, b a, z aa"))
            self.raises(NoHost("y"), player.play, History.read("a y, b a"))
            self.same(all_of(player), now)

    def test_no_host_by_name(self):
        for player in played():
            now = all_of(player)
            for value in [*any_values(), "x", "A", ("a",), ["a"], 0, Frame("a"), player]:
                self.raises(NoHost(value), player.seers, value)
                self.raises(NoHost(value), lambda: list(player.loose(value)))
                self.raises(NoHost(value), lambda: next(player.loose(value)))
            self.same(all_of(player), now)


class Seeing(Case):

    def test_seers(self):
        for player in played():
            for host in player.hosts:
                wanted = {seer for frame, sight in zip(player.frames, player.sights) if frame.sender == host
                          for seer in sight}
                self.same([player.seers(host), player.seers(host=host)], [tuple(sorted(wanted))] * 2)

    def test_outlook(self):
        for player in [*players(), *played()]:
            outlook = player.outlook()
            self.same(outlook, tuple([tuple([player.would(Frame(a, c)) for a in player.hosts if a != c])
                                      for c in player.hosts]))
            for at, host in enumerate(player.hosts):
                others = [a for a in player.hosts if a != host]
                for a, sight in zip(others, outlook[at]):
                    self.same(player.twin().send(Frame(a, host)), sight)

    def test_loose(self):
        for player in [*players(), *played()]:
            for host in player.hosts:
                wanted = [(p, q) for p in player.hosts for q in player.hosts
                          if p < q and host not in (p, q) and q in player.would(Frame(p, host))]
                self.same([list(player.loose(host)), list(player.loose(host=host))], [wanted, wanted])
        self.assertTrue(hasattr(Play(TREE).loose("a"), "send"))

    def test_loose_is_as_at_the_first_request(self):
        for player in players():
            wanted = list(player.loose("a"))
            made = player.loose("a")
            found = [next(made)]
            player.send(Frame("a"))
            found.extend(made)
            self.same([found, list(player.loose("a"))], [wanted, []])
            player = player.twin()
            player.reset()
            made = player.loose("a")
            player.send(Frame("a"))
            self.same(list(made), [])
            made = player.loose("x")
            self.raises(NoHost("x"), next, made)

    def test_nothing_changes(self):
        for player in played():
            frames, sights, outlook, twin = player.frames, player.sights, player.outlook(), player.twin()
            for frame in frames_among(player.hosts, True):
                player.would(frame)
            for host in player.hosts:
                player.seers(host)
                list(player.loose(host))
            player.outlook()
            self.same([player.frames, player.sights, player.outlook(), player], [frames, sights, outlook, twin])

    def test_a_frame_more_at_the_end_never_shows_more(self):
        for player in played():
            for more in list(frames_among(player.hosts, True))[::3]:
                before = player.outlook()
                self.same(player.tried(lambda same: [same.send(more), all(
                    set(new) <= set(old) for rows in zip(before, same.outlook()) for old, new in zip(*rows))])[1], True)

    def test_a_frame_more_at_the_front_can_show_more(self):
        tree = Tree.read("a b (c d)")
        more = 0
        for first in frames_among(tree.hosts):
            for second in frames_among(tree.hosts):
                plain = Network(tree)
                plain.play(History(second))
                behind = Network(tree)
                behind.play(History(first, second))
                more += any(not set(new) <= set(old) for rows in zip(plain.outlook(), behind.outlook())
                            for old, new in zip(*rows))
        self.assertGreater(more, 0)


class TakingBack(Case):

    def test_back(self):
        for player in players():
            steps = [player.twin()]
            frames = drawn_frames(6, player.hosts, 12)
            for frame in frames:
                player.send(frame)
                steps.append(player.twin())
            for frame in reversed(frames):
                self.same([player, all_of(player)], [steps[-1], all_of(steps[-1])])
                steps.pop()
                self.same(player.back(), frame)
            self.same([player, all_of(player)], [steps[0], all_of(steps[0])])
            self.raises(NoChange(), player.back)
            self.same(len(player), 0)

    def test_reset(self):
        for player, new in zip(played(), players()):
            self.same(player.reset(), None)
            self.same([player, all_of(player)], [new, all_of(new)])
            self.raises(NoChange(), player.back)
            self.same(player.reset(), None)
            player.send(Frame("a"))
            self.same([len(player), player.back(), len(player)], [1, Frame("a"), 0])

    def test_results_stay(self):
        for player in played():
            frames, sights = player.frames, player.sights
            kept = (list(frames), list(sights))
            player.send(Frame("a"))
            player.back()
            player.back()
            self.same((list(frames), list(sights)), kept)


class Twins(Case):

    def test_twins_go_their_own_ways(self):
        for player in played():
            now = all_of(player)
            twin = player.twin()
            self.same([type(twin), twin, all_of(twin), twin is player], [type(player), player, now, False])
            for frame in drawn_frames(7, player.hosts, 5):
                twin.send(frame)
            self.same([all_of(player), player == twin], [now, False])
            later = all_of(twin)
            player.back()
            player.reset()
            self.same(all_of(twin), later)
            twin.reset()
            self.same(player, twin)

    def test_equality(self):
        for player, other in zip(played(), played()):
            self.same([player == other, player != other], [True, False])
            other.back()
            self.same([player == other, player != other], [False, True])
            other.send(Frame("b"))
            self.same(player == other, player.frames[-1] == Frame("b"))
            for value in [*any_values(), player.frames, TREE, WEB, Table.of_tree(TREE)]:
                self.same([player == value, value == player, player != value], [False, False, True])

    def test_classes_and_grounds(self):
        found = players()
        for at, one in enumerate(found):
            for k, other in enumerate(found):
                self.same(one == other, at == k)
        self.same([Network(TREE) == Network(Web.of_tree(TREE)), Play(TREE) == Network(TREE)], [True, False])
        self.same([Play(TREE) == Play(Table.of_tree(TREE)), Play(Table(["a"])) == Play(Table(["a"]))], [False, True])
        self.same([Network(WEB) == Network(WEB.lean()), Play(TREE) == Play(Tree.star(*TREE.hosts))], [False, False])

    def test_unlike_rows(self):
        for player, other in zip(players(), players()):
            player.play(ROW.upto(2))
            other.play(ROW.upto(2).swapped(0))
            self.same(player == other, False)


class Trials(Case):

    def change(self, player):
        """Takes two frames back, and sends some."""
        player.back()
        player.back()
        for frame in drawn_frames(8, player.hosts, 4):
            player.send(frame)

    def test_behind_the_block(self):
        for player in played():
            now = all_of(player)
            with player.trial() as same:
                self.assertIs(same, player)
                self.change(player)
                self.same(len(player), 11)
            self.same(all_of(player), now)
            with player.trial():
                player.reset()
                player += Frame("b", "a")
            self.same(all_of(player), now)

    def test_an_error_goes_on(self):
        for player in played():
            now = all_of(player)
            for error in (NoChange(), KeyError("x"), KeyboardInterrupt()):
                with self.assertRaises(type(error)) as caught:
                    with player.trial():
                        self.change(player)
                        raise error
                self.assertIs(caught.exception, error)
                self.same(all_of(player), now)
            with self.assertRaises(NoHost):
                with player.trial():
                    self.change(player)
                    player.send(Frame("x"))
            self.same(all_of(player), now)

    def test_within_another_one(self):
        for player in played():
            now = all_of(player)
            with player.trial():
                player.back()
                player += Frame("c", "a")
                within = all_of(player)
                with player.trial() as inner:
                    self.assertIs(inner, player)
                    player.reset()
                    with self.assertRaises(NoChange):
                        with player.trial():
                            player += Frame("a")
                            player.back()
                            player.back()
                    self.same(len(player), 0)
                self.same(all_of(player), within)
                self.change(player)
            self.same(all_of(player), now)

    def test_the_block_begins_behind_the_call(self):
        for player in played():
            trial = player.trial()
            self.change(player)
            now = all_of(player)
            with trial:
                player.reset()
            self.same(all_of(player), now)

    def test_the_player_goes_on_behind_it(self):
        for player in played():
            twin = player.twin()
            with player.trial():
                self.change(player)
            for one in (player, twin):
                self.change(one)
            self.same([player, all_of(player)], [twin, all_of(twin)])

    def test_tried(self):
        for player in played():
            now = all_of(player)
            seen = []

            def work(same):
                seen.append(same)
                self.change(same)
                return [len(same)]
            self.same([player.tried(work), player.tried(work=work)], [[11], [11]])
            self.assertTrue(all(one is player for one in seen))
            self.same(player.tried(lambda same: same.tried(work)), [11])
            self.same([player.tried(lambda same: None), all_of(player)], [None, now])

            def fail(same):
                self.change(same)
                raise NoChange()
            self.raises(NoChange(), player.tried, fail)
            self.same(all_of(player), now)


class Facts(Case):
    """What the document states of networks, their lean webs, their trees and the tables of these."""

    def same_along(self, grounds, frames):
        """The players show the same along a row of frames."""
        for frame in frames:
            sights = [player.send(frame) for player in grounds]
            self.same(sights, [sights[0]] * len(grounds))
        for player in grounds[1:]:
            self.same(all_of(player)[1:], all_of(grounds[0])[1:])

    def test_by_any_web_with_the_tree(self):
        for seed in range(60):
            web = Web(*drawn_web(seed))
            grounds = [Network(web), Network(web.lean()), Network(web.tree), Play(web.tree)]
            if len(web.hosts) <= 12:
                grounds.append(Play(Table.of_tree(web.tree)))
            self.same_along(grounds, drawn_frames(seed, web.hosts, 12 if len(web.hosts) > 12 else 30))

    def test_all_trees(self):
        for tree in all_trees(letters(5)):
            for seed in range(6):
                grounds = [Network(tree), Play(tree), Play(Table.of_tree(tree))]
                self.same_along(grounds, drawn_frames(seed, tree.hosts, 15))

    def test_what_named_hosts_see(self):
        for seed in range(40):
            tree = Tree(*drawn_cuts(seed, 12))
            named = tuple(sorted(random.Random(seed).sample(tree.hosts, 4 + seed % 4)))
            row = History.of(drawn_frames(seed, named, 30))
            whole = Play(tree).play(row)
            part = Play(tree.only(named)).play(row)
            self.same(tuple([tuple([host for host in sight if host in named]) for sight in whole]), part)

    def test_an_answer_of_none_shows_it_to_fewer(self):
        # b sees the frame of a to c behind a frame of c to d exactly if a b / c d holds.
        for answer in answers_of(("a", "b", "c", "d")):
            table = Table(letters(4))
            table["a", "b", "c", "d"] = answer
            player = Play(table)
            player.play(History.read("d *, c d"))
            player.send(Frame("a", "c"))
            wanted = ("b", "c") if answer == Parting(["a", "b"], ["c", "d"]) else ("c",)
            self.same(player.sights[-1], wanted)


class Bounds(Case):

    def test_the_greatest_ones(self):
        chain = [(k, k + 1) for k in range(99)]
        places = {host: at * 5 % 100 for at, host in enumerate(letters(40))}
        tree = Tree(*caterpillar_cuts(40))
        for player in [Network(Web(chain, places)), Network(tree), Play(tree), Play(Tree(*drawn_cuts(2, 40))),
                       Play(Table.of_tree(Tree(*caterpillar_cuts(12)))), Play(no_trees_table(9, 12))]:
            frames = drawn_frames(9, player.hosts, 180)
            sights = self.soon(player.play, History.of(frames[:60]))
            self.same(len(sights), 60)
            for frame in frames[60:]:
                self.soon(player.send, frame)
            outlook = self.soon(player.outlook)
            self.same([len(outlook), len(outlook[0])], [len(player.hosts), len(player.hosts) - 1])
            for host in player.hosts:
                self.soon(lambda: list(player.loose(host)))
                self.soon(player.seers, host)
            self.soon(player.twin)
            self.soon(player.tried, lambda same: same.back())
