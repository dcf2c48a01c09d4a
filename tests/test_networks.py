from seenframes.errors import BadGround, NoHost, NoSwitch
from seenframes.frames import Frame, History, frames_among
from seenframes.networks import Network
from seenframes.plays import Play
from seenframes.tables import Table
from seenframes.trees import Tree, all_trees
from seenframes.webs import Web
from tests.support import (
    Case, PlainNetwork, any_values, caterpillar_cuts, drawn_cuts, drawn_frames, letters, no_grounds)
from tests.test_webs import LINKS, PLACES, WEB, drawn_web, shaped_webs

TREE = Tree.read("a b (c (d e))")


class Made(Case):

    def test_grounds(self):
        net = Network(WEB)
        self.same([net.web, net.hosts, len(net)], [WEB, letters(4), 0])
        net = Network(ground=TREE)
        self.same([net.web, net.hosts], [Web.of_tree(TREE), TREE.hosts])
        self.same(Network(Tree.star("a")).web, Web([], {"a": 0}))

    def test_wrong_grounds(self):
        for value in [*no_grounds(Web, Tree), "a b (c d)", Table.of_tree(TREE), Play(TREE), Network(TREE), LINKS]:
            self.raises(BadGround(value), Network, value)

    def test_it_is_as_when_it_was_made(self):
        places = dict(PLACES)
        links = list(LINKS)
        net = Network(Web(links, places))
        links.append((9, 10))
        places["e"] = 3
        net.web.places["f"] = 3
        self.same([net.web, net.hosts, net.send(Frame("a"))], [WEB, letters(4), ("b", "c", "d")])


class Live(Case):
    """Networks beside a plain one, port by port."""

    def same_ports(self, net, plain):
        """Both know the same ports, and so the same knowers."""
        for host in net.hosts:
            knowers = [switch for switch in net.web.switches if host in plain.known[switch]]
            self.same([net.knowers(host), net.knowers(host=host)], [tuple(knowers)] * 2)
            for switch in net.web.switches:
                port = plain.known[switch].get(host)
                self.same(net.port(switch, host), None if port is None else port[1])

    def test_drawn_webs(self):
        for seed in range(70):
            links, places = drawn_web(seed)
            net = Network(Web(links, places))
            plain = PlainNetwork(links, places)
            frames = drawn_frames(seed, net.hosts, 25)
            for at, frame in enumerate(frames):
                self.same(net.send(frame), plain.send(frame))
                if at in (0, 1, 2, 10):
                    self.same_ports(net, plain)
            self.same_ports(net, plain)

    def test_chains_stars_and_combs(self):
        for at, (links, places) in enumerate(list(shaped_webs())[:20]):
            web = Web(links, places)
            net, lean, play = Network(web), Network(web.lean()), Play(web.tree)
            plain = PlainNetwork(links, places)
            for frame in drawn_frames(at, net.hosts, 40):
                sight = plain.send(frame)
                self.same([net.send(frame), lean.send(frame), play.send(frame)], [sight] * 3)
            self.same_ports(net, plain)
            self.same([net.outlook(), lean.outlook()], [play.outlook()] * 2)

    def test_drawn_trees(self):
        for tree in [*all_trees(letters(5)), Tree(*drawn_cuts(7, 40)), Tree(*caterpillar_cuts(12))]:
            web = Web.of_tree(tree)
            net = Network(tree)
            plain = PlainNetwork(web.links, web.places)
            for frame in drawn_frames(len(tree), net.hosts, 40):
                self.same(net.send(frame), plain.send(frame))
            self.same_ports(net, plain)

    def test_all_rows_of_three_frames(self):
        links, places = [(0, 1), (1, 2), (1, 3)], {"a": 0, "b": 1, "c": 2}
        net = Network(Web(links, places))
        frames = list(frames_among(net.hosts, True))
        for first in frames:
            for second in frames:
                for third in frames:
                    plain = PlainNetwork(links, places)
                    net.reset()
                    self.same(net.play(History(first, second, third)),
                              tuple([plain.send(frame) for frame in (first, second, third)]))
                    self.same_ports(net, plain)

    def test_a_target_known_on_a_part_of_its_way(self):
        # Behind d to a and a to d, a is known from its home to that of d alone; 9 is behind these.
        web = Web([(0, 1), (1, 2), (2, 9), (1, 5)], {"a": 0, "b": 9, "c": 9, "d": 2, "e": 5})
        net = Network(web)
        net.play(History.read("d a, a d"))
        self.same([net.knowers("a"), net.port(2, "a"), net.port(1, "a"), net.port(0, "a"), net.port(9, "a")],
                  [(0, 1, 2), 1, 0, "a", None])
        self.same([net.send(Frame("b", "a")), net.knowers("b")], [("a", "c"), (0, 1, 2, 9)])
        self.same([net.send(Frame("e", "b")), net.send(Frame("d", "e"))], [("b",), ("e",)])

    def test_ports(self):
        net = Network(WEB)
        self.same([net.port(switch, "a") for switch in WEB.switches], [None] * 6)
        net.send(Frame("a", "d"))
        self.same([net.port(switch, "a") for switch in WEB.switches], [7, 3, 4, 4, "a", 5])
        self.same([net.knowers("a"), net.knowers("d"), net.port(switch=7, host="a")], [WEB.switches, (), "a"])
        net.send(Frame("d", "a"))
        self.same([net.knowers("d"), net.port(6, "d"), net.port(9, "d"), net.port(7, "d")],
                  [(3, 4, 5, 7, 9), None, "d", 3])

    def test_switches_0_and_99(self):
        net = Network(Web([(0, 99)], {"a": 0, "b": 99, "c": 0}))
        self.same([net.send(Frame("a", "b")), net.port(99, "a"), net.port(0, "a"), net.knowers("a")],
                  [("b", "c"), 0, "a", (0, 99)])
        self.same([net.send(Frame("b", "a")), net.port(0, "b"), net.port(99, "b")], [("a",), 99, "b"])
        self.same([net.send(Frame("c", "b")), net.would(Frame("b", "c"))], [("b",), ("c",)])

    def test_one_switch(self):
        net = Network(Web([], {"a": 99, "b": 99, "c": 99}))
        self.same([net.send(Frame("a", "b")), net.knowers("a"), net.port(99, "a"), net.send(Frame("b", "a"))],
                  [("b", "c"), (99,), "a", ("a",)])

    def test_back(self):
        net = Network(WEB)
        net.send(Frame("a", "d"))
        net.send(Frame("d", "a"))
        net.back()
        self.same([net.knowers("d"), net.knowers("a"), net.port(5, "d")], [(), WEB.switches, None])
        net.reset()
        self.same([net.knowers("a"), net.port(7, "a")], [(), None])

    def test_a_frame_again_comes_by_the_same_ports(self):
        for seed in range(20):
            net = Network(Web(*drawn_web(seed)))
            for frame in drawn_frames(seed, net.hosts, 20):
                known = {(switch, host): net.port(switch, host) for switch in net.web.switches for host in net.hosts}
                net.send(frame)
                for (switch, host), port in known.items():
                    self.assertTrue(port is None or net.port(switch, host) == port)


class WrongArguments(Case):

    def test_knowers(self):
        net = Network(WEB)
        for value in [*any_values(), "e", 7, ("a",), WEB, net]:
            self.raises(NoHost(value), net.knowers, value)

    def test_port(self):
        net = Network(Web([(0, 1), (1, 2)], {"a": 0, "b": 2}))
        net.send(Frame("a", "b"))
        for value in [*any_values(), "e", "a", (0, 1), 3, -1, WEB]:
            if value not in (0, 1, 2) or isinstance(value, bool):
                self.raises(NoSwitch(value), net.port, value, "a")
                self.raises(NoSwitch(value), net.port, value, "x")
                self.raises(NoSwitch(value), net.port, value, value)
            self.raises(NoHost(value if value != "a" else "A"), net.port, 1, value if value != "a" else "A")
        self.same(net.port(0, "a"), "a")

    def test_nothing_changes(self):
        net = Network(WEB)
        net.play(History.read("a b, b a, c *"))
        twin = net.twin()
        for switch in WEB.switches:
            for host in WEB.hosts:
                net.port(switch, host)
                net.knowers(host)
        self.raises(NoSwitch(8), net.port, 8, "a")
        self.same([net, net.frames, net.outlook()], [twin, twin.frames, twin.outlook()])

    def test_twins_know_by_themselves(self):
        net = Network(WEB)
        net.send(Frame("a", "b"))
        twin = net.twin()
        twin.send(Frame("d"))
        self.same([net.knowers("d"), twin.knowers("d"), twin.knowers("a"), twin.web],
                  [(), WEB.switches, WEB.switches, WEB])
        with net.trial():
            net.send(Frame("c"))
            self.same(net.knowers("c"), WEB.switches)
        self.same(net.knowers("c"), ())
