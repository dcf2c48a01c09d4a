from itertools import combinations, product

from seenframes.cuts import Cut, first_crossing
from seenframes.errors import BadCut, BadText, NoHost, Unlike
from seenframes.partings import Parting, answers_of
from tests.support import Case, any_values, letters


def all_cuts(hosts):
    """All cuts of some hosts, each once, by the definition alone."""
    rest = hosts[1:]
    fars = [far for many in range(2, len(hosts) - 1) for far in combinations(rest, many)]
    return [Cut([host for host in hosts if host not in far], far) for far in sorted(fars)]


def cross(one, other):
    """Whether each side of the one has a host in common with each side of the other."""
    return all(set(a) & set(b) for a, b in product([one.near, one.far], [other.near, other.far]))


class MadeCuts(Case):

    def test_sides(self):
        cut = Cut(["e", "d"], ["a", "c", "b"])
        self.same([cut.near, cut.far, cut.hosts], [("a", "b", "c"), ("d", "e"), ("a", "b", "c", "d", "e")])
        cut = Cut(("a", "z"), ("c", "b"))
        self.same([cut.near, cut.far, cut.hosts], [("a", "z"), ("b", "c"), ("a", "b", "c", "z")])
        self.same(Cut(other=["a", "b"], one=("c", "d")), Cut(["a", "b"], ["c", "d"]))

    def test_either_order(self):
        for one, other in [(["a", "b"], ["c", "d"]), (("c", "a"), ["b", "d", "e"])]:
            self.same(Cut(one, other), Cut(other, one))
            self.same([Cut(one, other).near, Cut(one, other).far], [Cut(other, one).near, Cut(other, one).far])

    def test_wrong_sides(self):
        good, better = ["a", "b"], ("c", "d")
        for value in any_values():
            self.raises(BadCut("one"), Cut, value, good)
            self.raises(BadCut("one"), Cut, value, value)
            self.raises(BadCut("other"), Cut, good, value)
            if value != "zz":
                self.raises(BadCut("one"), Cut, ["a", value], better)
                self.raises(BadCut("other"), Cut, good, ["c", "d", value])
        for side in [["a"], ("a",), ["a", "a"], ["a", "b", "a"], {"a": 0, "b": 0}, "ab", [["a", "b"], ["c", "d"]]]:
            self.raises(BadCut("one"), Cut, side, better)
            self.raises(BadCut("other"), Cut, better, side)
            self.raises(BadCut("one"), Cut, side, side)

    def test_a_name_on_both_sides(self):
        self.raises(BadCut("other"), Cut, ["a", "b"], ["b", "c"])
        self.raises(BadCut("other"), Cut, ["a", "b"], ["a", "b"])
        self.raises(BadCut("other"), Cut, ("c", "d", "e"), ("a", "b", "e"))

    def test_arguments_stay(self):
        one, other = ["b", "a"], ["d", "c"]
        cut = Cut(one, other)
        self.same([one, other], [["b", "a"], ["d", "c"]])
        one.append("e")
        other[0] = "x"
        self.same([cut.near, cut.far, cut.hosts], [("a", "b"), ("c", "d"), ("a", "b", "c", "d")])

    def test_many_hosts(self):
        hosts = letters(600)
        cut = self.soon(Cut, hosts[:300], hosts[300:])
        self.same([cut.hosts, Cut.read(str(cut))], [hosts, cut])


class Makes(Case):

    def test_makes(self):
        hosts = letters(6)
        for cut in all_cuts(hosts):
            for four in combinations(hosts, 4):
                for parting in answers_of(four)[1:]:
                    sides = [set(cut.near), set(cut.far)]
                    one, other = [set(pair) for pair in parting.pairs]
                    wanted = any(one <= a and other <= b for a, b in [sides, sides[::-1]])
                    self.same(cut.makes(parting), wanted)

    def test_ordinary(self):
        cut = Cut(["a", "b"], ["c", "d", "e"])
        self.same(cut.makes(Parting(["e", "c"], ["b", "a"])), True)
        self.same(cut.makes(parting=Parting(["a", "c"], ["b", "e"])), False)
        self.same(cut.makes(Parting(["a", "e"], ["d", "c"])), False)

    def test_hosts_that_are_missing(self):
        cut = Cut(["c", "d"], ["f", "g"])
        self.raises(NoHost("b"), cut.makes, Parting(["c", "h"], ["b", "f"]))
        self.raises(NoHost("h"), cut.makes, Parting(["c", "h"], ["d", "f"]))
        self.raises(NoHost("a"), cut.makes, Parting(["x", "y"], ["z", "a"]))
        self.raises(NoHost("e"), cut.makes, Parting(["e", "c"], ["i", "f"]))


class Crosses(Case):

    def test_crosses(self):
        cuts = all_cuts(letters(6))
        self.assertEqual(len(cuts), 25)
        for one, other in product(cuts, cuts):
            self.same(one.crosses(other), cross(one, other))

    def test_unlike_hosts(self):
        cut = Cut(["a", "b"], ["c", "d"])
        for value in any_values():
            self.raises(Unlike(), cut.crosses, value)
        for other in [Cut(["a", "b"], ["c", "d", "e"]), Cut(["a", "b"], ["c", "e"]), Cut(["aa", "b"], ["c", "d"])]:
            self.raises(Unlike(), cut.crosses, other)
            self.raises(Unlike(), other.crosses, other=cut)
        self.raises(Unlike(), cut.crosses, Parting(["a", "c"], ["b", "d"]))


class Only(Case):

    def test_only(self):
        hosts = letters(6)
        for cut in all_cuts(hosts):
            for many in range(7):
                for some in combinations(hosts, many):
                    near = [host for host in cut.near if host in some]
                    far = [host for host in cut.far if host in some]
                    wanted = Cut(near, far) if len(near) > 1 and len(far) > 1 else None
                    self.same(cut.only(some), wanted)

    def test_the_near_side_can_change(self):
        cut = Cut(["a", "d", "e"], ["b", "c"]).only(hosts=("b", "c", "d", "e"))
        self.same([cut.near, cut.far], [("b", "c"), ("d", "e")])


class Order(Case):

    def test_by_far_sides(self):
        cuts = all_cuts(letters(6))
        for (i, one), (k, other) in product(enumerate(cuts), enumerate(cuts)):
            found = [one < other, one <= other, one > other, one >= other, one == other, one != other]
            self.same(found, [i < k, i <= k, i > k, i >= k, i == k, i != k])
        self.no_order(cuts[0])

    def test_longer_names(self):
        one, other = Cut(["a", "c"], ["b", "bb"]), Cut(["a", "c"], ["b", "d"])
        self.same([one < other, other < one], [True, False])
        one, other = Cut(["a", "b"], ["c", "x"]), Cut(["a", "b"], ["c", "d", "x"])
        self.same([one < other, other < one], [False, True])
        one, other = Cut(["a", "b"], ["c", "d"]), Cut(["a", "b"], ["c", "d", "e"])
        self.same([one < other, other < one], [True, False])

    def test_equal_far_sides_of_unlike_cuts(self):
        one, other = Cut(["a", "b"], ["y", "z"]), Cut(["a", "c"], ["y", "z"])
        self.same([one < other, one <= other, one > other, one >= other, one == other],
                  [False, True, False, True, False])

    def test_equality(self):
        cut = Cut(["a", "b"], ["c", "d"])
        for value in [*any_values(), "a b | c d", (("a", "b"), ("c", "d")), Parting(["a", "b"], ["c", "d"])]:
            self.same([cut == value, value == cut, cut != value], [False, False, True])


class Texts(Case):

    def test_text(self):
        self.same(str(Cut(["e", "d"], ["c", "b", "a"])), "a b c | d e")
        self.same(str(Cut(["b", "c"], ["a", "zz"])), "a zz | b c")

    def test_read_back(self):
        for cut in all_cuts(letters(6)):
            self.same(Cut.read(str(cut)), cut)
        self.same(Cut.read(text="a zz | b c"), Cut(["a", "zz"], ["b", "c"]))

    def test_read_errors(self):
        wrong = ["", "a", "a b", "a b |", "a b | ", "| a b", " | ", "|", "a b|c d", "a b | c", "b | c d", "a | b c",
                 "c d | a b", "b a | c d", "a b | d c", "a b | c d ", " a b | c d", "a  b | c d", "a b |  c d",
                 "a b | c d | e f", "a b | b c", "a a | c d", "a b | c d\n", "a b\n| c d", "a b | c 1", "A b | c d",
                 "a b / c d", "a b | c d | ", "(a b) | c d", "a b | c d" + " e" * 2000, "-", "a,b | c d"]
        for text in wrong:
            self.raises(BadText(0, 0), Cut.read, text)
        for value in [*any_values(), Cut(["a", "b"], ["c", "d"]), ["a b | c d"]]:
            self.raises(BadText(0, 0), Cut.read, value)


class FirstCrossing(Case):

    def test_pairs(self):
        cuts = all_cuts(letters(5))
        for row in combinations(cuts, 3):
            for some in [row, list(row[::-1])]:
                wanted = [(one, other) for one, other in combinations(some, 2) if cross(one, other)]
                self.same(first_crossing(some), wanted[0] if wanted else None)

    def test_the_first_one_counts_first(self):
        one, other = Cut(["a", "b"], ["c", "d", "e"]), Cut(["a", "b", "c"], ["d", "e"])
        third = Cut(["a", "c"], ["b", "d", "e"])
        self.same(first_crossing([one, other, third]), (one, third))
        self.same(first_crossing([other, one, third]), (one, third))
        self.same(first_crossing((third, one)), (third, one))
        fourth = Cut(["a", "d"], ["b", "c", "e"])
        self.same(first_crossing([one, other, fourth, third]), (one, fourth))
        self.same(first_crossing([other, third, fourth]), (other, fourth))

    def test_none(self):
        one, other = Cut(["a", "b"], ["c", "d", "e"]), Cut(["a", "b", "c"], ["d", "e"])
        for row in [[], (), [one], [one, one], (one, other), [other, one, other, one]]:
            self.same(first_crossing(cuts=row), None)

    def test_long_rows(self):
        hosts = letters(40)
        chain = [Cut(hosts[:k], hosts[k:]) for k in range(2, 39)]
        self.same(self.soon(first_crossing, chain * 80), None)
        late = Cut(["aa", "bn"], [host for host in hosts if host not in ("aa", "bn")])
        self.same(self.soon(first_crossing, chain * 80 + [late]), (chain[0], late))
