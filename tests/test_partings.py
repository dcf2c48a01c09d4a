from itertools import combinations, permutations, product

from seenframes.cuts import Cut
from seenframes.errors import BadFour, BadParting, BadText, NoHost
from seenframes.partings import Parting, answers_of, partings_of
from seenframes.trees import Tree, all_trees
from tests.support import Case, any_values, caterpillar_cuts, letters


class MadePartings(Case):

    def test_made(self):
        parting = Parting(["d", "b"], ("c", "a"))
        self.same([parting.four, parting.pairs], [("a", "b", "c", "d"), (("a", "c"), ("b", "d"))])
        parting = Parting(other=["z", "aa"], one=("b", "ab"))
        self.same([parting.four, parting.pairs], [("aa", "ab", "b", "z"), (("aa", "z"), ("ab", "b"))])

    def test_any_order(self):
        wanted = Parting(["a", "d"], ["b", "c"])
        for one, other in product(permutations(["a", "d"]), permutations(["b", "c"])):
            for found in [Parting(one, other), Parting(list(other), list(one))]:
                self.same([found == wanted, found.pairs, found.four], [True, wanted.pairs, wanted.four])

    def test_wrong_pairs(self):
        good = ["a", "b"]
        for value in any_values():
            self.raises(BadParting("one"), Parting, value, good)
            self.raises(BadParting("one"), Parting, value, value)
            self.raises(BadParting("other"), Parting, good, value)
            if value != "zz":
                self.raises(BadParting("one"), Parting, ("c", value), good)
                self.raises(BadParting("other"), Parting, good, ["c", value])
        for pair in [["c"], ["c", "c"], ("c", "d", "e"), {"c": 0, "d": 0}, "cd"]:
            self.raises(BadParting("one"), Parting, pair, good)
            self.raises(BadParting("other"), Parting, good, pair)
            self.raises(BadParting("one"), Parting, pair, pair)

    def test_a_name_in_both_pairs(self):
        self.raises(BadParting("other"), Parting, ["a", "b"], ["b", "c"])
        self.raises(BadParting("other"), Parting, ["a", "b"], ["c", "a"])
        self.raises(BadParting("other"), Parting, ["a", "b"], ["a", "b"])

    def test_arguments_stay(self):
        one, other = ["b", "a"], ["d", "c"]
        parting = Parting(one, other)
        self.same([one, other], [["b", "a"], ["d", "c"]])
        one[0] = "x"
        other.append("y")
        self.same([parting.four, parting.pairs], [("a", "b", "c", "d"), (("a", "b"), ("c", "d"))])

    def test_mate(self):
        parting = Parting(["d", "a"], ["b", "c"])
        self.same([parting.mate(host) for host in "abcd"], ["d", "c", "b", "a"])
        self.same(parting.mate(host="a"), "d")
        for value in [*any_values(), "e", ("a", "d"), parting]:
            self.raises(NoHost(value), parting.mate, value)

    def test_order(self):
        hosts = ("a", "aa", "b", "c", "d")
        row = [parting for four in combinations(hosts, 4) for parting in answers_of(four)[1:]]
        for (i, one), (k, other) in product(enumerate(row), enumerate(row)):
            found = [one < other, one <= other, one > other, one >= other, one == other, one != other]
            self.same(found, [i < k, i <= k, i > k, i >= k, i == k, i != k])
        self.no_order(row[0])

    def test_equality(self):
        parting = Parting(["a", "b"], ["c", "d"])
        for value in [*any_values(), "a b / c d", parting.pairs, parting.four, Cut(["a", "b"], ["c", "d"])]:
            self.same([parting == value, value == parting, parting != value], [False, False, True])

    def test_text(self):
        self.same(str(Parting(["d", "b"], ["c", "a"])), "a c / b d")
        self.same(str(Parting(["zz", "y"], ["x", "abcdefgh"])), "abcdefgh x / y zz")

    def test_read_back(self):
        for parting in answers_of(["a", "abcdefgh", "c", "zz"])[1:]:
            self.same(Parting.read(str(parting)), parting)
        self.same(Parting.read(text="a zz / b c"), Parting(["a", "zz"], ["b", "c"]))

    def test_read_errors(self):
        wrong = ["", "a b", "a b /", "a b / ", " / ", "/", "a b/c d", "a b / c", "c d / a b", "b a / c d", "a b / d c",
                 "a b / c d ", " a b / c d", "a  b / c d", "a b /  c d", "a b / c d / e f", "a b / b c", "a a / c d",
                 "a b / c d\n", "a b / c 1", "A b / c d", "a b | c d", "a b c / d e f", "a b / c d e", "None", "-"]
        for text in wrong:
            self.raises(BadText(0, 0), Parting.read, text)
        for value in [*any_values(), Parting(["a", "b"], ["c", "d"]), ["a b / c d"]]:
            self.raises(BadText(0, 0), Parting.read, value)


class AnswersOf(Case):

    def test_answers(self):
        wanted = (None, Parting(["a", "b"], ["c", "d"]), Parting(["a", "c"], ["b", "d"]),
                  Parting(["a", "d"], ["b", "c"]))
        for four in permutations("abcd"):
            self.same(answers_of(four), wanted)
            self.same(answers_of(four=list(four)), wanted)

    def test_wrong_fours(self):
        for value in any_values():
            self.raises(BadFour(value), answers_of, value)
            if value != "zz":
                self.raises(BadFour(["a", "b", "c", value]), answers_of, ["a", "b", "c", value])
        for value in ["abcd", ("a", "b", "c"), ["a", "b", "c", "d", "e"], ["a", "b", "c", "a"], dict.fromkeys("abcd"),
                      ("a", "b", "c", "D"), ("a", "a", "a", "a"), Parting(["a", "b"], ["c", "d"])]:
            self.raises(BadFour(value), answers_of, value)


class PartingsOf(Case):

    def test_those_that_hold(self):
        for many in range(1, 7):
            hosts = letters(many)
            for tree in all_trees(hosts):
                wanted = [parting for four in combinations(hosts, 4) for parting in answers_of(four)[1:]
                          if any(cut.makes(parting) for cut in tree.cuts)]
                self.same(list(partings_of(tree)), wanted)

    def test_it_is_a_generator(self):
        made = partings_of(tree=Tree.star("a", "b", "c", "d"))
        self.assertTrue(hasattr(made, "send"))
        self.same(list(made), [])

    def test_forty_hosts(self):
        tree = Tree(*caterpillar_cuts(40))
        found = self.soon(lambda: list(partings_of(tree)))
        self.assertEqual(len(found), 91390)
        self.assertTrue(all(one < other for one, other in zip(found, found[1:])))
