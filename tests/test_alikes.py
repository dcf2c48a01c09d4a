from itertools import combinations

from seenframes.alikes import Shown, alike, first_unlike, show_unlike, shows_unlike
from seenframes.errors import BadGround, NoHost, Unlike
from seenframes.frames import Frame, History, frames_among
from seenframes.networks import Network
from seenframes.plays import Play
from seenframes.tables import Table
from seenframes.trees import Tree, all_trees
from seenframes.webs import Web
from tests.support import Case, any_values, caterpillar_cuts, drawn_cuts, drawn_frames, letters, no_grounds
from tests.test_webs import WEB, drawn_web

TREE = Tree.read("a b (c d)")
OTHER = Tree.read("a (b c) d")
STAR = Tree.star(*letters(4))
ROW = History.read("c d, d c, a d")


def network(ground):
    """A live network of a web or tree."""
    return Network(ground)


class Alike(Case):

    def test_trees(self):
        trees = list(all_trees(letters(5)))
        for at, one in enumerate(trees):
            for k, other in enumerate(trees):
                found = [alike(one, other), alike(Web.of_tree(one), other), alike(one, Web.of_tree(other))]
                self.same(found, [at == k] * 3)

    def test_webs(self):
        for seed in range(40):
            web = Web(*drawn_web(seed))
            self.same([alike(web, web.lean()), alike(one=web, other=web.tree), alike(web.lean(), web.tree)], [True] * 3)
            self.same([show_unlike(web, web.lean()), first_unlike(web, web.tree, History())], [None, None])

    def test_wrong_grounds(self):
        values = [*no_grounds(Web, Tree), Table.of_tree(TREE), "a b (c d)", Play(TREE), Network(TREE), [TREE]]
        for value in values:
            for call, more in [(alike, ()), (show_unlike, ()), (first_unlike, (History.read("x y"),))]:
                self.raises(BadGround(value), call, value, TREE, *more)
                self.raises(BadGround(value), call, TREE, value, *more)
                self.raises(BadGround(value), call, value, None, *more)
                self.raises(BadGround(value), call, Tree.star("a"), value, *more)

    def test_unlike_hosts(self):
        for one, other in [(TREE, Tree.star("a", "b", "c")), (TREE, Tree.star(*letters(5))), (WEB, Tree.star(*"abce")),
                           (Web([], {"a": 0}), Web([], {"b": 0})), (Tree.star("a"), Tree.star("b"))]:
            for first, second in [(one, other), (other, one)]:
                self.raises(Unlike(), alike, first, second)
                self.raises(Unlike(), show_unlike, first, second)
                self.raises(Unlike(), first_unlike, first, second, History.read("x y"))
                self.same(shows_unlike(first, second, Shown(History.read("a *"), "a")), False)


class FirstUnlike(Case):

    def test_drawn_rows(self):
        found = []
        for seed in range(120):
            one, other = Tree(*drawn_cuts(seed, 4 + seed % 5)), Tree(*drawn_cuts(seed + 1000, 4 + seed % 5))
            row = History.of(drawn_frames(seed, one.hosts, 1 + seed % 30))
            sights = zip(Network(one).play(row), Network(other).play(row))
            unlike = [at for at, (here, there) in enumerate(sights) if here != there]
            wanted = unlike[0] if unlike else None
            self.same([first_unlike(one, other, row), first_unlike(Web.of_tree(one), other, row),
                       first_unlike(one=other, other=one, history=row)], [wanted] * 3)
            found.append(wanted)
        self.assertTrue(None in found and len(set(found)) > 9, found)

    def test_examples(self):
        self.same([first_unlike(TREE, STAR, ROW), first_unlike(TREE, OTHER, ROW)], [2, 2])
        self.same(first_unlike(OTHER, STAR, ROW), None)
        self.same([first_unlike(TREE, STAR, ROW.upto(2)), first_unlike(TREE, STAR, History())], [None, None])

    def test_no_host(self):
        self.raises(NoHost("aa"), first_unlike, TREE, OTHER, History.read("c d, d c, a d, z *, x aa"))
        self.raises(NoHost("x"), first_unlike, TREE, TREE, History.read("a x"))

    def test_a_web_that_is_not_lean(self):
        # A live network of the web, with a switch that no tree draws, shows the same.
        web = Web([(7, 3), (3, 4), (4, 5), (5, 9), (4, 6)], {"a": 7, "b": 3, "c": 5, "d": 9})
        self.same([first_unlike(web, STAR, ROW), Network(web).play(ROW)[2], Network(STAR).play(ROW)[2]],
                  [2, ("b", "d"), ("d",)])


class ShowUnlike(Case):

    def holds(self, one, other, found):
        """A Shown of three frames, at whose last one the live networks are unlike to its host, and not ahead."""
        self.assertIs(type(found), Shown)
        self.same([len(found.history), found.host in one.hosts], [3, True])
        here, there = network(one).play(found.history), network(other).play(found.history)
        self.same([here[:2], (found.host in here[2]) != (found.host in there[2])], [there[:2], True])
        self.same([shows_unlike(one, other, found), shows_unlike(other, one, found)], [True, True])

    def test_all_trees(self):
        trees = list(all_trees(letters(5)))
        for one in trees:
            for other in trees:
                if one == other:
                    self.same(show_unlike(one, other), None)
                else:
                    self.holds(one, other, show_unlike(one, other))

    def test_drawn_webs(self):
        for seed in range(60):
            one = Web(*drawn_web(seed))
            other = Tree(*drawn_cuts(seed, len(one.hosts))) if len(one.hosts) > 1 else Tree.star("a")
            if one.tree != other:
                self.holds(one, other, self.soon(show_unlike, one, other))
            else:
                self.same(show_unlike(one, other), None)

    def test_one_cut_more(self):
        tree = Tree(*caterpillar_cuts(40))
        for cut in tree.cuts[::6]:
            less = Tree(tree.hosts, [other for other in tree.cuts if other != cut])
            self.same(self.soon(alike, tree, less), False)
            self.holds(tree, less, self.soon(show_unlike, tree, less))
            self.holds(less, tree, self.soon(show_unlike, less, tree))

    def test_the_same_for_equal_arguments(self):
        self.same(show_unlike(TREE, OTHER), show_unlike(Tree.read("a b (c d)"), Web.of_tree(OTHER)))

    def test_forty_hosts(self):
        star = Tree.star(*letters(40))
        for seed in range(4):
            tree = Tree(*drawn_cuts(seed, 40))
            self.holds(tree, star, self.soon(show_unlike, tree, star))
            self.holds(star, tree, self.soon(show_unlike, star, tree))
            self.same(self.soon(alike, tree, Web.of_tree(tree)), True)


class ShowsUnlike(Case):

    def test_other_kinds(self):
        for value in [*any_values(), ROW, (ROW, "b"), [ROW, "b"], {"history": ROW, "host": "b"}, TREE]:
            self.same(shows_unlike(TREE, STAR, value), False)
            self.same(shows_unlike(TREE, STAR, Shown(value, "b")), value == ROW)
            self.same(shows_unlike(TREE, STAR, Shown(ROW, value)), False)
        self.same(shows_unlike(one=TREE, other=STAR, value=Shown(ROW, "b")), True)

    def test_the_host(self):
        self.same([shows_unlike(TREE, STAR, Shown(ROW, host)) for host in "abcde"], [False, True, False, False, False])
        self.same(shows_unlike(TREE, STAR, Shown(ROW, ("b",))), False)

    def test_the_row(self):
        for texts, wanted in [("c d, d c, a d, b a, a b", False), ("c d, d c", False), ("-", False), ("a d", False),
                              ("c d, d c, a d, x *", False), ("c d, d x, d c, a d", False),
                              ("x *, c d, d c, a d", False),
                              ("a *, c d, d c, a d", True), ("c d, d c, a d, a d", True),
                              ("c d, d c, d a, a d", False)]:
            self.same(shows_unlike(TREE, STAR, Shown(History.read(texts), "b")), wanted)
        rows = [list(ROW), tuple(ROW), str(ROW), History.read("c d, d c, a d, b d").frames]
        self.same([shows_unlike(TREE, STAR, Shown(row, "b")) for row in rows], [False] * 4)

    def test_only_the_last_frame(self):
        # The third frame is seen by b on just one; then a is known, and the last one by nobody else.
        self.same(shows_unlike(TREE, STAR, Shown(ROW + Frame("c", "a"), "b")), False)

    def test_against_networks(self):
        frames = list(frames_among(letters(4)))
        for at, (first, second) in enumerate(combinations(frames, 2)):
            row = History(first, second, frames[at * 5 % 12], frames[at * 7 % 12])
            for host in "abcd":
                here = host in Network(TREE).play(row)[3]
                there = host in Network(OTHER).play(row)[3]
                self.same(shows_unlike(TREE, Web.of_tree(OTHER), Shown(row, host)), here != there)


class Papers(Case):

    def test_attributes(self):
        for value in any_values():
            found = Shown(history=value, host=ROW)
            self.same([found.history, found.host], [value, ROW])
            found = Shown(ROW, value)
            self.same([found.history, found.host], [ROW, value])

    def test_equality(self):
        self.same([Shown(ROW, "b") == Shown(History.read("c d, d c, a d"), "b"), Shown(ROW, "b") != Shown(ROW, "b")],
                  [True, False])
        self.same([Shown(ROW, "b") == Shown(ROW, "a"), Shown(ROW, "b") == Shown(ROW.upto(2), "b"),
                   Shown(ROW, "b") != Shown(ROW, "a")], [False, False, True])
        for value in [*any_values(), (ROW, "b")]:
            self.same([Shown(ROW, "b") == value, value == Shown(ROW, "b"), Shown(ROW, value) == Shown(ROW, value)],
                      [False, False, True])
