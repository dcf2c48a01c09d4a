import random
import time

from seenframes.cuts import Cut
from seenframes.errors import BadWeb, NoHost, NoSwitch, TooMany
from seenframes.trees import Tree, all_trees
from seenframes.webs import Web
from tests.support import Case, any_values, caterpillar_cuts, drawn_cuts, letters

LINKS = [(7, 3), (3, 4), (4, 5), (5, 9), (4, 6)]
PLACES = {"a": 7, "b": 3, "c": 5, "d": 9}
WEB = Web(LINKS, PLACES)


def drawn_web(seed):
    """A web that is drawn by lot."""
    dice = random.Random(seed)
    switches = dice.sample(range(100), dice.choice([1, 2, 3, 5, 8, 13, 40, 100]))
    links = []
    for at in range(1, len(switches)):
        link = (switches[at], switches[dice.randrange(max(0, at - 4), at)])
        links.append(link if dice.random() < 0.5 else link[::-1])
    dice.shuffle(links)
    hosts = letters(dice.choice([1, 2, 3, 4, 5, 7, 12, 40]))
    return links, {host: dice.choice(switches) for host in hosts}


def side_of(links, one, other):
    """The switches on the side of the one switch of a link."""
    reached = {one}
    while True:
        more = {b for link in links for a, b in (link, link[::-1]) if a in reached and {a, b} != {one, other}}
        if more <= reached:
            return reached
        reached |= more


def cut_by(links, places, one, other):
    """The cut that a link makes, by the definition alone."""
    near = side_of(links, one, other)
    here = [host for host in places if places[host] in near]
    there = [host for host in places if places[host] not in near]
    return Cut(here, there) if len(here) > 1 and len(there) > 1 else None


def kinds_of(links, places):
    """The needless switches of a web and their kinds, by the definition alone."""
    found = []
    for switch in sorted({*sum(links, ()), *places.values()}):
        hosts = [host for host in places if places[host] == switch]
        ends = [link for link in links if switch in link]
        kind = {(0, 1): "end", (0, 2): "middle", (1, 1): "lone"}.get((len(hosts), len(ends)))
        if kind:
            found.append((switch, kind))
    return found


class MadeWebs(Case):

    def test_made(self):
        self.same([WEB.hosts, WEB.switches], [("a", "b", "c", "d"), (3, 4, 5, 6, 7, 9)])
        self.same(WEB.links, ((3, 4), (3, 7), (4, 5), (4, 6), (5, 9)))
        self.same(WEB.places, PLACES)
        web = Web(places={"b": 99, "a": 0}, links=((99, 10), (10, 0)))
        self.same([web.hosts, web.switches, web.links], [("a", "b"), (0, 10, 99), ((0, 10), (10, 99))])

    def test_one_switch(self):
        for links in ([], ()):
            web = Web(links, {"a": 0})
            self.same([web.hosts, web.switches, web.links, web.places], [("a",), (0,), (), {"a": 0}])
            self.same([web.tree, list(web.needless()), web.lean() == web], [Tree.star("a"), [], True])
        self.same(Web([], {host: 99 for host in letters(40)}).tree, Tree.star(*letters(40)))

    def test_wrong_links(self):
        for value in any_values():
            if value not in ((), []):
                self.raises(BadWeb("links"), Web, value, PLACES)
                self.raises(BadWeb("links"), Web, value, None)
            self.raises(BadWeb("links"), Web, [(7, 3), value], PLACES)
            if value not in (0, 1, 2, 99) or isinstance(value, bool):
                self.raises(BadWeb("links"), Web, [(value, 3)], {"a": 3})
                self.raises(BadWeb("links"), Web, [(3, value)], {"a": 3})
        for links in [[(1, 1)], [[0, 1]], [(0, 1, 2)], [(0,)], [()], [(0, 100)], [(-1, 0)], {(0, 1): 0}, "01", (0, 1),
                      [(True, 0)], [(0, 1), (2, False)], [(0, 1), (1, 1)], {0: (0, 1)}]:
            self.raises(BadWeb("links"), Web, links, {"a": 0})
            self.raises(BadWeb("links"), Web, links, {})

    def test_wrong_places(self):
        for value in any_values():
            if value != {"zz": 0}:
                self.raises(BadWeb("places"), Web, LINKS, value)
                self.raises(BadWeb("places"), Web, [(0, 1), (0, 1), (2, 3)], value)
            if value not in (0, 1, 2, 99) or isinstance(value, bool):
                self.raises(BadWeb("places"), Web, LINKS, {**PLACES, "e": value})
        for places in [{}, [("a", 7)], {"A": 7}, {"": 7}, {7: "a"}, {"a": "7"}, {"a": -1}, {"a": 100}, {("a",): 7},
                       {None: 7}, {"a": 7, 1: 7}, {"a": [7]}, {"a": True}]:
            self.raises(BadWeb("places"), Web, LINKS, places)

    def test_switches_0_to_99(self):
        web = Web([(99, 0)], {"a": 99, "b": 0, "c": 99, "d": 0})
        self.same([web.switches, str(web.tree)], [(0, 99), "a (b d) c"])

    def test_too_many_hosts(self):
        self.same(len(Web([], {host: 0 for host in letters(40)}).hosts), 40)
        self.raises(TooMany("hosts", 40), Web, [], {host: 0 for host in letters(41)})
        self.raises(TooMany("hosts", 40), Web, [(0, 1), (1, 0), (5, 6)], {host: 0 for host in letters(41)})
        self.raises(BadWeb("places"), Web, [], {**{host: 0 for host in letters(41)}, "A": 0})

    def test_rings(self):
        for links in [[(0, 1), (1, 0)], [(0, 1), (0, 1)], [(0, 1), (1, 2), (2, 0)], [(5, 6), (0, 1), (1, 2), (2, 0)],
                      [(0, 1), (2, 3), (1, 2), (3, 0)], [(k, k + 1) for k in range(99)] + [(99, 0)], [(0, 1)] * 1000]:
            self.soon(self.raises, BadWeb("ring"), Web, links, {"a": 0})
            self.raises(BadWeb("ring"), Web, tuple(reversed(links)), {"a": 0, "b": 77})

    def test_switches_apart(self):
        for links, places in [([(0, 1), (2, 3)], {"a": 0}), ([], {"a": 0, "b": 1}), ([(0, 1)], {"a": 2}),
                              ([(0, 1), (1, 2), (3, 4)], {"a": 1, "b": 3}), ([(0, 1)], {"a": 0, "b": 5})]:
            self.raises(BadWeb("apart"), Web, links, places)

    def test_arguments_stay(self):
        links, places = [(1, 0)], {"b": 1, "a": 0}
        web = Web(links, places)
        self.same([links, places], [[(1, 0)], {"b": 1, "a": 0}])
        links.append((1, 2))
        places["c"] = 1
        web.places["d"] = 0
        web.places.clear()
        self.same([web.links, web.hosts, web.home("a"), sorted(web.places)], [((0, 1),), ("a", "b"), 0, ["a", "b"]])
        self.assertIsNot(web.places, web.places)

    def test_home(self):
        self.same([WEB.home(host) for host in "abcd"], [7, 3, 5, 9])
        self.same(WEB.home(host="a"), 7)
        for value in [*any_values(), "e", 7, ("a",), WEB]:
            self.raises(NoHost(value), WEB.home, value)

    def test_equality(self):
        self.same([WEB == Web(tuple(link[::-1] for link in reversed(LINKS)), dict(reversed(PLACES.items()))),
                   WEB != Web(LINKS, PLACES)], [True, False])
        self.same([WEB == Web(LINKS, {**PLACES, "a": 3}), WEB == Web(LINKS[:-1], PLACES),
                   WEB == Web(LINKS, {**PLACES, "e": 3}), Web([], {"a": 0}) == Web([], {"a": 1})], [False] * 4)
        for value in [*any_values(), WEB.tree, LINKS, (WEB.links, WEB.places)]:
            self.same([WEB == value, value == WEB, WEB != value], [False, False, True])


class Cuts(Case):

    def test_cut_of(self):
        self.same([WEB.cut_of(4, 3), WEB.cut_of(3, 4), WEB.cut_of(5, 4)], [Cut(["a", "b"], ["c", "d"])] * 3)
        self.same([WEB.cut_of(7, 3), WEB.cut_of(4, 6), WEB.cut_of(one=9, other=5)], [None] * 3)

    def test_drawn_webs(self):
        for seed in range(60):
            links, places = drawn_web(seed)
            web = Web(links, places)
            cuts = [cut_by(links, places, one, other) for one, other in links]
            for (one, other), cut in zip(links, cuts):
                self.same([web.cut_of(one, other), web.cut_of(other, one)], [cut, cut])
            self.same(self.soon(lambda: web.tree), Tree(web.hosts, [cut for cut in cuts if cut is not None]))

    def test_no_link(self):
        for value in any_values():
            self.raises(NoSwitch((value, 3)), WEB.cut_of, value, 3)
            self.raises(NoSwitch((3, value)), WEB.cut_of, 3, value)
            self.raises(NoSwitch((value, value)), WEB.cut_of, value, value)
        for one, other in [(3, 5), (3, 3), (7, 4), (0, 1), (True, 3), ((3, 4), None), (3, -4)]:
            self.raises(NoSwitch((one, other)), WEB.cut_of, one, other)
        web = Web([(0, 1)], {"a": 0})
        for one, other in [(False, 1), (0, True), (False, True)]:
            self.raises(NoSwitch((one, other)), web.cut_of, one, other)

    def test_of_tree(self):
        for many in range(1, 7):
            for tree in all_trees(letters(many)):
                web = Web.of_tree(tree)
                self.same([web.tree, web.links, web.hosts], [tree, tree.links, tree.hosts])
                self.same(web.places, {host: tree.home(host) for host in tree.hosts})
                self.same(web.switches, tuple(range(len(tree) + 1)))
        for seed in range(40):
            tree = Tree(*drawn_cuts(seed, 40))
            self.same(self.soon(Web.of_tree, tree).tree, tree)
        tree = Tree(*caterpillar_cuts(40))
        self.same(Web.of_tree(tree=tree).tree, tree)
        self.same(Web.of_tree(Tree.star(*letters(40))).switches, (0,))


class Needless(Case):

    def test_needless(self):
        self.same(list(WEB.needless()), [(6, "end"), (7, "lone"), (9, "lone")])
        web = Web([(0, 1), (1, 2), (2, 3)], {"a": 0, "b": 2, "c": 2, "d": 0})
        self.same(list(web.needless()), [(1, "middle"), (3, "end")])
        for seed in range(60):
            links, places = drawn_web(seed)
            self.same(list(Web(links, places).needless()), kinds_of(links, places))
        self.assertTrue(hasattr(WEB.needless(), "send"))

    def test_without_an_end(self):
        web = WEB.without(6)
        self.same([web.links, web.places], [((3, 4), (3, 7), (4, 5), (5, 9)), PLACES])

    def test_without_a_middle(self):
        web = WEB.without(6).without(4)
        self.same([web.links, web.places], [((3, 5), (3, 7), (5, 9)), PLACES])
        web = Web([(2, 9), (5, 9)], {"a": 2, "b": 5}).without(switch=9)
        self.same([web.links, web.places], [((2, 5),), {"a": 2, "b": 5}])

    def test_without_a_lone(self):
        web = WEB.without(9)
        self.same([web.links, web.places], [((3, 4), (3, 7), (4, 5), (4, 6)), {**PLACES, "d": 5}])

    def test_no_needless_switch(self):
        for value in [*any_values(), 3, 4, 5, 8, (6, "end"), "6"]:
            self.raises(NoSwitch(value), WEB.without, value)
        web = Web([(0, 1), (1, 2)], {"a": 0, "b": 0, "c": 2})
        for value in [False, True, 0, 3]:
            self.raises(NoSwitch(value), web.without, value)
        self.same(web.without(1).switches, (0, 2))
        self.raises(NoSwitch(0), Web([], {"a": 0}).without, 0)

    def test_the_web_stays(self):
        WEB.without(6)
        WEB.lean()
        self.same([WEB.links, WEB.places], [((3, 4), (3, 7), (4, 5), (4, 6), (5, 9)), PLACES])

    def test_without_keeps_the_tree(self):
        for seed in range(30):
            web = Web(*drawn_web(seed))
            for switch, _ in list(web.needless())[:5]:
                self.same(web.without(switch).tree, web.tree)

    def test_lean(self):
        web = WEB.lean()
        self.same([web.links, web.places], [((3, 5),), {"a": 3, "b": 3, "c": 5, "d": 5}])
        for seed in range(60):
            web = Web(*drawn_web(seed))
            lean = self.soon(web.lean)
            self.same([list(lean.needless()), lean.tree, len(lean.switches)], [[], web.tree, len(web.tree) + 1])

    def test_the_least_one_goes_first(self):
        for seed in range(30):
            web = Web(*drawn_web(seed))
            step = web
            while list(step.needless()):
                step = step.without(min(list(step.needless()))[0])
            self.same(web.lean(), step)

    def test_lean_chains(self):
        chain = [(k, k + 1) for k in range(99)]
        web = self.soon(Web(chain, {"a": 50, "b": 0}).lean)
        self.same([web.links, web.places], [(), {"a": 50, "b": 50}])
        web = Web([(0, 1)], {"a": 0}).lean()
        self.same([web.links, web.places], [(), {"a": 1}])
        web = Web([(1, 0)], {"a": 0, "b": 1}).lean()
        self.same([web.links, web.places], [(), {"a": 1, "b": 1}])


def taken_out(links, places, switch, kind):
    """The links and places without a needless switch, by the definition alone."""
    ends = [other for link in links for one, other in (link, link[::-1]) if one == switch]
    left = [link for link in links if switch not in link]
    if kind == "middle":
        left.append(tuple(ends))
    return left, {host: ends[0] if at == switch else at for host, at in places.items()}


def shaped_webs():
    """Links and places: chains, stars, combs and drawn webs, with needless switches of each kind."""
    chain = [(k, k + 1) for k in range(30)]
    mixed = [(k * 7 % 30, (k + 1) * 7 % 30) for k in range(29)]
    star = [(5, k) for k in range(30) if k != 5]
    comb = [(k, k + 1) for k in range(0, 14)] + [(k, k + 15) for k in range(15)]
    for links in (chain, mixed, star, comb):
        ends = sorted({*sum(links, ())})
        yield links, {"a": ends[0]}
        yield links, {"a": ends[-1], "b": ends[0]}
        yield links, {"a": ends[3], "b": ends[4], "c": ends[4], "d": ends[9]}
        yield links, {host: ends[at] for at, host in enumerate(letters(len(ends)))}
        yield links, {host: ends[at // 2] for at, host in enumerate(letters(40)) if at // 2 < len(ends)}
    for seed in range(120):
        yield drawn_web(seed)


class OneByOne(Case):
    """Taking needless switches out, beside webs that are made anew."""

    def same_webs(self, web, made):
        """The two webs are equal, and all that is told of the one is told of the other."""
        self.same([web == made, made == web], [True, True])
        for one in (web, made):
            self.same([type(one), list(one.places)], [Web, list(one.hosts)])
        self.same([web.hosts, web.switches, web.links, web.places],
                  [made.hosts, made.switches, made.links, made.places])
        self.same([web.home(host) for host in web.hosts], [made.home(host) for host in made.hosts])
        self.same(list(web.needless()), list(made.needless()))
        self.raises(NoHost("zzz"), web.home, "zzz")

    def test_each_step(self):
        kinds = {}
        for links, places in shaped_webs():
            web = Web(links, places)
            whole = web
            found = kinds_of(links, places)
            steps = 0
            while found:
                switch, kind = found[0]
                links, places = taken_out(links, places, switch, kind)
                web = web.without(switch)
                self.raises(NoSwitch(switch), web.without, switch)
                kinds[kind] = kinds.get(kind, 0) + 1
                steps += 1
                if steps % 9 == 1 or len(web.switches) < 9:
                    made = Web(links, places)
                    self.same_webs(web, made)
                    self.same([web.cut_of(*link) for link in web.links], [made.cut_of(*link) for link in made.links])
                found = kinds_of(links, places)
            self.same_webs(whole.lean(), Web(links, places))
            self.same([whole.lean().tree, web.lean() == web], [whole.tree, True])
        self.assertTrue(all(kinds[kind] > 100 for kind in ("end", "middle", "lone")), kinds)

    def test_any_needless_switch(self):
        for seed in range(60):
            links, places = drawn_web(seed)
            web = Web(links, places)
            for switch, kind in kinds_of(links, places):
                self.same_webs(web.without(switch), Web(*taken_out(links, places, switch, kind)))
            self.same_webs(web, Web(links, places))

    def test_webs_behind_go_on(self):
        web = Web([(0, 1), (1, 2), (2, 3), (3, 4)], {"a": 0, "b": 0, "c": 4, "d": 4, "e": 2}).without(1)
        self.same([web.links, web.cut_of(0, 2), str(web.tree)],
                  [((0, 2), (2, 3), (3, 4)), Cut(["a", "b"], ["c", "d", "e"]), "a b ((c d) e)"])
        self.raises(NoSwitch((0, 1)), web.cut_of, 0, 1)
        self.same(web.without(3).links, ((0, 2), (2, 4)))
        web.places["a"] = 4
        self.same(web.home("a"), 0)

    def test_it_takes_little_time(self):
        web = Web([(k, k + 1) for k in range(99)], {"a": 0, "b": 99})
        start = time.perf_counter()
        for _ in range(100):
            found = web.lean()
        self.assertLess(time.perf_counter() - start, 0.8)
        self.same([found.switches, found.links, found.places], [(99,), (), {"a": 99, "b": 99}])
        start = time.perf_counter()
        for _ in range(10):
            step = web
            for switch in range(99):
                step = step.without(list(step.needless())[0][0])
        self.assertLess(time.perf_counter() - start, 1.5)
        self.same(step, found)
