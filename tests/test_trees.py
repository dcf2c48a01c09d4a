from itertools import combinations, product

from seenframes.cuts import Cut
from seenframes.errors import (BadFour, BadHosts, BadNames, BadNumber, BadText, BadTree, Crossed, NoHost,
                               TooMany, Unlike)
from seenframes.partings import Parting, answers_of, partings_of
from seenframes.trees import Tree, all_trees, count_trees
from tests.support import Case, any_values, caterpillar_cuts, drawn_cuts, letters, no_integers
from tests.test_cuts import all_cuts, cross

ABCDE = letters(5)
AB = Cut(["a", "b"], ["c", "d", "e"])
AC = Cut(["a", "c"], ["b", "d", "e"])
AD = Cut(["a", "d"], ["b", "c", "e"])
DE = Cut(["a", "b", "c"], ["d", "e"])
TREE = Tree(ABCDE, [DE, AB])


def least_over(tree, hosts):
    """The switch of the cut with the fewest hosts on a far side that has some hosts and more, or 0."""
    over = [(len(cut.far), at + 1) for at, cut in enumerate(tree.cuts) if set(hosts) < set(cut.far)]
    return min(over)[1] if over else 0


def drawn_links(tree):
    """The links of the drawn tree, by the definition alone."""
    return tuple(sorted(tuple(sorted((at + 1, least_over(tree, cut.far)))) for at, cut in enumerate(tree.cuts)))


def some_trees():
    """All trees of up to five hosts, and some of more."""
    for many in range(1, 6):
        yield from all_trees(letters(many))
    for seed in range(40):
        yield Tree(*drawn_cuts(seed, 6 + seed % 35))
    yield Tree(*caterpillar_cuts(40))
    yield Tree.star(*letters(40))


class MadeTrees(Case):

    def test_made(self):
        self.same([TREE.hosts, TREE.cuts, len(TREE)], [ABCDE, (AB, DE), 2])
        self.same([Tree(["b", "a"]).hosts, Tree(["b", "a"]).cuts, len(Tree(("a",)))], [("a", "b"), (), 0])
        self.same(Tree(cuts=(DE,), hosts=("e", "d", "c", "b", "a")).cuts, (DE,))

    def test_cuts_that_stand_twice(self):
        tree = Tree(ABCDE, [DE, AB, DE, Cut(DE.far, DE.near), AB])
        self.same([tree.cuts, len(tree), tree == TREE], [(AB, DE), 2, True])

    def test_the_order_of_cuts(self):
        hosts = letters(6)
        fars = [("b", "c", "d"), ("b", "c"), ("e", "f")]
        cuts = [Cut([host for host in hosts if host not in far], far) for far in fars]
        self.same([cut.far for cut in Tree(hosts, cuts).cuts], [("b", "c"), ("b", "c", "d"), ("e", "f")])

    def test_wrong_hosts(self):
        for value in any_values():
            if not isinstance(value, (list, tuple)) or not value:
                self.raises(BadHosts(None), Tree, value)
                self.raises(BadHosts(None), Tree, value, value)
            elif value not in (("zz",), ["zz"]):
                self.raises(BadHosts(1 if value == ("zz", 1) else 0), Tree, value, None)
        self.raises(BadHosts(2), Tree, ["a", "b", "a"], [None])
        self.raises(TooMany("hosts", 40), Tree, letters(41), None)
        self.same(Tree(letters(40)).hosts, letters(40))

    def test_most(self):
        self.same(Tree.MOST, 40)

    def test_wrong_cuts(self):
        for value in any_values():
            if not isinstance(value, (list, tuple)):
                self.raises(BadTree(None), Tree, ABCDE, value)
            elif value:
                self.raises(BadTree(0), Tree, ABCDE, value)
            self.raises(BadTree(2), Tree, ABCDE, [AB, DE, value, AC])
        self.raises(BadTree(None), Tree, ABCDE, {0: AB})
        self.raises(BadTree(0), Tree, ["a", "b", "c"], [DE])
        self.raises(BadTree(1), Tree, ABCDE, (AB, Cut(["a", "b"], ["c", "d"])))
        self.raises(BadTree(0), Tree, ABCDE, [Cut(["a", "b"], ["c", "d", "f"])])
        self.raises(BadTree(0), Tree, ABCDE, ["a b | c d e"])
        self.raises(BadTree(0), Tree, ABCDE, [Parting(["a", "b"], ["c", "d"])])

    def test_cuts_that_cross(self):
        self.raises(Crossed(AB, AC), Tree, ABCDE, [AB, AC])
        self.raises(Crossed(AC, AB), Tree, ABCDE, [AC, AB])
        self.raises(Crossed(AC, AB), Tree, ABCDE, [DE, AC, AB])
        self.raises(Crossed(AB, AD), Tree, ABCDE, (AB, DE, AD, AC))
        self.raises(Crossed(DE, AD), Tree, ABCDE, (DE, AB, AD, AC))
        self.raises(BadTree(2), Tree, ABCDE, [AB, AC, None])

    def test_many_cuts(self):
        hosts, cuts = caterpillar_cuts(40)
        self.assertEqual(len(self.soon(Tree, hosts, cuts * 80)), 37)

    def test_arguments_stay(self):
        hosts, cuts = ["b", "a", "d", "c"], [Cut(["a", "b"], ["c", "d"])]
        tree = Tree(hosts, cuts)
        self.same(hosts, ["b", "a", "d", "c"])
        hosts.append("e")
        cuts.clear()
        self.same([tree.hosts, len(tree)], [("a", "b", "c", "d"), 1])

    def test_star(self):
        self.same(Tree.star("b", "a"), Tree(["a", "b"]))
        self.same([Tree.star("c").hosts, len(Tree.star("a", "c", "b", "d"))], [("c",), 0])
        self.raises(BadHosts(None), Tree.star)
        self.raises(BadHosts(1), Tree.star, "a", "a")
        self.raises(BadHosts(0), Tree.star, ["a", "b"])
        self.raises(TooMany("hosts", 40), Tree.star, *letters(41))

    def test_contains(self):
        self.same([AB in TREE, Cut(DE.far, DE.near) in TREE, AC in TREE, AB not in TREE], [True, True, False, False])
        for value in [*any_values(), "a b | c d e", TREE, (AB,), Cut(["a", "b"], ["c", "d"])]:
            self.same(value in TREE, False)

    def test_equality(self):
        self.same([TREE == Tree(ABCDE, (AB, DE)), TREE != Tree(ABCDE, (AB, DE))], [True, False])
        self.same([TREE == Tree(ABCDE, [AB]), Tree(["a", "b"]) == Tree(["a", "c"])], [False, False])
        for value in [*any_values(), str(TREE), TREE.cuts, TREE.hosts]:
            self.same([TREE == value, value == TREE, TREE != value], [False, False, True])


class Answers(Case):

    def test_answers(self):
        for many in (4, 5, 6):
            hosts = letters(many)
            for tree in all_trees(hosts):
                for four in combinations(hosts, 4):
                    held = [one for one in answers_of(four)[1:] if any(cut.makes(one) for cut in tree.cuts)]
                    self.assertLessEqual(len(held), 1)
                    self.same(tree(*four), held[0] if held else None)

    def test_any_order(self):
        for four in [("a", "c", "e", "b"), ("e", "c", "b", "a"), ("c", "a", "b", "e")]:
            self.same(TREE(*four), Parting(["a", "b"], ["c", "e"]))
        self.same(TREE(d="a", c="b", b="e", a="d"), Parting(["a", "b"], ["d", "e"]))
        self.same(Tree.star("a", "b", "c", "d")("d", "c", "b", "a"), None)

    def test_no_host(self):
        for value in any_values():
            self.raises(NoHost(value), TREE, value, "a", "a", "a")
            self.raises(NoHost(value), TREE, "a", "a", value, "f")
            self.raises(NoHost(value), TREE, "a", "b", "c", value)
        self.raises(NoHost("f"), TREE, "a", "f", "g", "a")

    def test_alike_hosts(self):
        for four in [("a", "b", "c", "a"), ("a", "a", "b", "c"), ("e", "e", "e", "e"), ("a", "b", "b", "c")]:
            self.raises(BadFour(four), TREE, *four)

    def test_the_cuts_are_those_of_which_all_partings_hold(self):
        for many in (4, 5, 6):
            hosts = letters(many)
            cuts = all_cuts(hosts)
            fours = [one for four in combinations(hosts, 4) for one in answers_of(four)[1:]]
            made = [[one for one in fours if cut.makes(one)] for cut in cuts]
            for tree in all_trees(hosts):
                held = list(partings_of(tree))
                found = [cut for cut, row in zip(cuts, made) if all(one in held for one in row)]
                self.same(tuple(found), tree.cuts)


class Signs(Case):

    def test_both_either_and_just_one(self):
        hosts = letters(5)
        trees = list(all_trees(hosts))
        for one, other in product(trees, trees):
            both = [cut for cut in one.cuts if cut in other.cuts]
            either = sorted([*one.cuts, *[cut for cut in other.cuts if cut not in both]])
            single = [cut for cut in either if cut not in both]
            self.same(one & other, Tree(hosts, both))
            for sign, cuts in [(lambda: one | other, either), (lambda: one ^ other, single)]:
                crossing = [pair for pair in combinations(cuts, 2) if cross(*pair)]
                if crossing:
                    self.raises(Crossed(*crossing[0]), sign)
                else:
                    self.same(sign(), Tree(hosts, cuts))

    def test_order(self):
        trees = list(all_trees(letters(5)))
        for one, other in product(trees, trees):
            below = all(cut in other.cuts for cut in one.cuts)
            above = all(cut in one.cuts for cut in other.cuts)
            found = [one <= other, one < other, one >= other, one > other]
            self.same(found, [below, below and not above, above, above and not below])
            held = all(parting in list(partings_of(other)) for parting in partings_of(one))
            self.same(below, held)

    def test_the_first_that_cross(self):
        one, other = Tree(ABCDE, [DE, AC]), Tree(ABCDE, [AB])
        self.raises(Crossed(AC, AB), lambda: one | other)
        self.raises(Crossed(AC, AB), lambda: other | one)
        self.raises(Crossed(AC, AB), lambda: one ^ other)

    def test_unlike(self):
        signs = [lambda a, b: a & b, lambda a, b: a | b, lambda a, b: a ^ b, lambda a, b: a <= b,
                 lambda a, b: a < b, lambda a, b: a >= b, lambda a, b: a > b]
        for value in [*any_values(), Tree.star("a", "b", "c", "d"), Tree.star("a", "b", "c", "d", "f"), TREE.cuts]:
            for sign in signs:
                self.raises(Unlike(), sign, TREE, value)

    def test_in_place(self):
        tree = first = Tree(ABCDE, [AB])
        tree |= Tree(ABCDE, [DE])
        self.same([tree, first], [TREE, Tree(ABCDE, [AB])])
        tree &= Tree(ABCDE, [DE])
        self.same([tree, len(first)], [Tree(ABCDE, [DE]), 1])
        tree ^= TREE
        self.same([tree, tree is first], [first, False])


class Parts(Case):

    def test_only(self):
        for tree in all_trees(letters(6)):
            for many in (1, 3, 4, 5, 6):
                for some in combinations(tree.hosts, many):
                    found = tree.only(list(reversed(some)))
                    self.same(found.hosts, some)
                    for four in combinations(some, 4):
                        self.same(found(*four), tree(*four))

    def test_only_errors(self):
        for value in any_values():
            if not isinstance(value, (list, tuple)) or not value:
                self.raises(BadHosts(None), TREE.only, value)
            if value != "zz":
                self.raises(BadHosts(1), TREE.only, ["f", value])
        self.raises(BadHosts(3), TREE.only, ("f", "a", "b", "a"))
        self.raises(NoHost("f"), TREE.only, ["a", "g", "f"])
        self.raises(NoHost("aa"), TREE.only, hosts=("f", "b", "aa"))
        self.raises(TooMany("hosts", 40), TREE.only, letters(41))
        self.raises(NoHost("aa"), TREE.only, letters(40))
        self.same([TREE.only(ABCDE), TREE.only(("c",))], [TREE, Tree.star("c")])

    def test_renamed(self):
        names = {"a": "z", "b": "y", "c": "x", "d": "w", "e": "v"}
        self.same(str(TREE.renamed(names)), "v w (x (y z))")
        self.same(TREE.renamed(names={host: host for host in "edcba"}), TREE)
        self.same(TREE.renamed(dict(zip("abcde", "badce"))), Tree(ABCDE, [AB, Cut(["a", "b", "d"], ["c", "e"])]))
        self.same(names, {"a": "z", "b": "y", "c": "x", "d": "w", "e": "v"})

    def test_renamed_errors(self):
        names = {"a": "z", "b": "y", "c": "x", "d": "w", "e": "v"}
        for value in any_values():
            self.raises(BadNames(value), TREE.renamed, value)
            if value != "zz":
                self.raises(BadNames({**names, "c": value}), TREE.renamed, {**names, "c": value})
        short = {host: names[host] for host in "abcd"}
        for value in [short, {**names, "f": "u"}, {**short, "f": "v"}, {**names, "e": "z"}, {**short, 0: "v"},
                      list(names.items()), "vwxyz", {**short, None: "v"}]:
            self.raises(BadNames(value), TREE.renamed, value)


class Drawn(Case):

    def test_home(self):
        for tree in some_trees():
            self.same([tree.home(host) for host in tree.hosts], [least_over(tree, [host]) for host in tree.hosts])
        self.same([TREE.home(host) for host in ABCDE], [0, 0, 1, 2, 2])
        for value in [*any_values(), "f", ("a",), TREE]:
            self.raises(NoHost(value), TREE.home, value)
        self.same(TREE.home(host="c"), 1)

    def test_links(self):
        for tree in some_trees():
            self.same(tree.links, drawn_links(tree))
        self.same([TREE.links, Tree.star("a", "b").links, Tree.star("a").links], [((0, 1), (1, 2)), (), ()])

    def test_a_switch_with_a_lesser_one_behind_it(self):
        hosts = letters(5)
        tree = Tree(hosts, [Cut(["a", "e"], ["b", "c", "d"]), Cut(["a", "d", "e"], ["b", "c"])])
        self.same([cut.far for cut in tree.cuts], [("b", "c"), ("b", "c", "d")])
        self.same([tree.links, tree.home("b"), tree.home("d"), str(tree)], [((0, 2), (1, 2)), 1, 2, "a ((b c) d) e"])
        self.same([tree.way("b", "a"), tree.way("a", "c")], [(1, 2, 0), (0, 2, 1)])

    def test_way(self):
        for tree in some_trees():
            hosts = tree.hosts if len(tree.hosts) < 8 else tree.hosts[::9] + tree.hosts[-1:]
            for one, other in product(hosts, hosts):
                way = tree.way(one, other)
                self.same([way[0], way[-1]], [tree.home(one), tree.home(other)])
                self.assertEqual(len(set(way)), len(way))
                for step in zip(way, way[1:]):
                    self.assertIn(tuple(sorted(step)), tree.links)
        self.same([TREE.way("e", "a"), TREE.way(one="c", other="e"), TREE.way("b", "a")], [(2, 1, 0), (1, 2), (0,)])

    def test_way_between_branches(self):
        tree = Tree.read("a ((b c) (d e)) f")
        self.same([tree.way("b", "d"), tree.way("d", "b"), tree.way("b", "c")],
                  [(tree.home("b"), tree.home("b") + 1, tree.home("d")),
                   (tree.home("d"), tree.home("b") + 1, tree.home("b")), (tree.home("b"),)])

    def test_way_errors(self):
        for value in any_values():
            self.raises(NoHost(value), TREE.way, value, "a")
            self.raises(NoHost(value), TREE.way, "a", value)
            self.raises(NoHost(value), TREE.way, value, "f")
        self.raises(NoHost("f"), TREE.way, "f", "g")


class Texts(Case):

    def test_text(self):
        for tree, text in [
                (Tree.star("a"), "a"), (Tree.star("b", "a"), "a b"), (Tree.star("c", "a", "b"), "a b c"),
                (TREE, "a b (c (d e))"), (Tree(ABCDE, [DE]), "a b c (d e)"), (Tree(ABCDE, [AC]), "a (b d e) c"),
                (Tree(ABCDE, [AD, Cut(["a", "c", "d"], ["b", "e"])]), "a ((b e) c) d")]:
            self.same(str(tree), text)

    def test_the_text_of_the_drawn_tree(self):
        for tree in some_trees():
            texts = {}
            for at in sorted(range(len(tree) + 1), key=lambda at: len(tree.cuts[at - 1].far) if at else 99):
                parts = {host: host for host in tree.hosts if tree.home(host) == at}
                for other, cut in enumerate(tree.cuts):
                    if least_over(tree, cut.far) == at:
                        parts[min(cut.far)] = "(" + texts[other + 1] + ")"
                texts[at] = " ".join(parts[least] for least in sorted(parts))
            self.same(str(tree), texts[0])

    def test_read_back(self):
        for many in range(1, 7):
            for tree in all_trees(letters(many)):
                self.same(Tree.read(str(tree)), tree)
        for tree in some_trees():
            self.same(self.soon(Tree.read, str(tree)), tree)
        self.same(Tree.read(text="a b (c (d e))"), TREE)

    def test_read_errors(self):
        wrong = ["", " ", "()", "(", ")", "(a)", "(a b)", "a (b)", "a (b c)", "(a b) c d", "a b ()", "b a", "a a",
                 "a b (d c)", "a (c d) b", "(c d) a b", "a b ((c d))", "a b (c d", "a b c d)", "a b c) (d", "a b )c d(",
                 "a b (c d) ", " a b (c d)", "a b  (c d)", "a b ( c d)", "a b (c d )", "a b(c d)", "a (b c)d",
                 "a b (c  d)", "a b (c d)\n", "a\nb", "a b (c 1)", "A b", "a, b", "a b (c d)(e f)", "-", "a (b c d)",
                 "(b c) a d", "a b (c (d) e)", "a (b (c d))", "a b (c (d e)) (f g", "a b (c a)", "a b (c d))",
                 "a b [c d]",
                 " ".join(letters(41)), "(" * 2500 + "a" + ")" * 2499, "(" * 5000, ")" * 5000,
                 "a b " + "(" * 1000 + "c d" + ")" * 1000, "a b " + "(c " * 1200 + "d" + ")" * 1200]
        for text in wrong:
            self.soon(self.raises, BadText(0, 0), Tree.read, text)
        for value in any_values():
            if value not in ("zz", "a b"):
                self.soon(self.raises, BadText(0, 0), Tree.read, value)
        self.raises(BadText(0, 0), Tree.read, TREE)
        self.same(Tree.read("zz"), Tree.star("zz"))

    def test_long_texts(self):
        names = [name for name in letters(600)]
        for text in ["a b " + "".join(f"({name} " for name in names) + "zz" + ")" * 600,
                     "(" * 600 + " ".join(f"{name})" for name in names), " ".join(names)]:
            self.soon(self.raises, BadText(0, 0), Tree.read, text)


class AllTrees(Case):

    def test_each_once_in_order(self):
        wanted = {1: 1, 2: 1, 3: 1, 4: 4, 5: 26, 6: 236, 7: 2752}
        for many, number in wanted.items():
            trees = self.soon(lambda: list(all_trees(letters(many))))
            self.assertEqual(len(trees), number)
            keys = [(len(tree.cuts), [cut.far for cut in tree.cuts]) for tree in trees]
            self.assertTrue(all(one < other for one, other in zip(keys, keys[1:])))
            self.assertTrue(all(tree.hosts == letters(many) for tree in trees))
            self.assertEqual(number, count_trees(many))
            for cuts in range(many):
                self.assertEqual(len([tree for tree in trees if len(tree) == cuts]), count_trees(many, cuts))

    def test_any_hosts(self):
        self.same([str(tree) for tree in all_trees(("zz", "b", "aa", "y"))],
                  ["aa b y zz", "aa (b y) zz", "aa (b zz) y", "aa b (y zz)"])

    def test_it_is_a_generator(self):
        hosts = ["b", "a"]
        made = all_trees(hosts=hosts)
        self.assertTrue(hasattr(made, "send"))
        hosts.append("c")
        self.same(next(made), Tree.star("a", "b", "c"))
        made = all_trees(hosts)
        hosts.append("d")
        next(made)
        hosts.clear()
        self.same(len(list(made)), 3)

    def test_errors(self):
        def first(hosts):
            next(all_trees(hosts))
        for value in any_values():
            if not isinstance(value, (list, tuple)) or not value:
                self.raises(BadHosts(None), first, value)
            if value != "zz":
                self.raises(BadHosts(1), first, ("a", value))
        self.raises(BadHosts(2), first, ["a", "b", "a"])
        self.raises(TooMany("hosts", 7), first, letters(8))
        self.raises(BadHosts(8), first, [*letters(8), "a"])


class CountTrees(Case):

    def test_any_number_of_cuts(self):
        self.same([count_trees(n) for n in range(1, 11)], [1, 1, 1, 4, 26, 236, 2752, 39208, 660032, 12818912])

    def test_so_many_cuts(self):
        self.same([count_trees(6, cuts) for cuts in range(6)], [1, 25, 105, 105, 0, 0])
        for n in range(1, 61):
            rows = [count_trees(n=n, cuts=cuts) for cuts in range(n + 1)]
            self.assertEqual(sum(rows), count_trees(n, None))
            self.assertEqual(rows[0], 1)
            self.assertEqual(rows[1], 0 if n < 3 else 2 ** (n - 1) - n - 1)
            if n > 2:
                double = 1
                for odd in range(1, 2 * n - 4, 2):
                    double *= odd
                self.assertEqual((rows[n - 3], rows[n - 2]), (double, 0))
        self.same([count_trees(60, 10 ** 59), count_trees(1, 1), count_trees(2, 1), count_trees(3, 1)], [0] * 4)

    def test_wrong_numbers(self):
        for value in [0, -1, 61, 10 ** 59, -(10 ** 59), *no_integers()]:
            self.raises(BadNumber(value), count_trees, value)
            self.raises(BadNumber(value), count_trees, value, value)
            self.raises(BadNumber(value), count_trees, value, -1)
        for value in [-1, -(10 ** 59), *[one for one in no_integers() if one is not None]]:
            self.raises(BadNumber(value), count_trees, 5, value)
        self.same([count_trees(1), count_trees(1, 0)], [1, 1])
