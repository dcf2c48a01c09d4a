import random
import time
from itertools import combinations, permutations, product

from seenframes.errors import BadAnswer, BadFour, BadHosts, Misfit, NoHost, TooMany, Unlike
from seenframes.partings import Parting, answers_of, partings_of
from seenframes.tables import Table, first_misfit
from seenframes.trees import Tree, all_trees
from tests.support import Case, any_values, caterpillar_cuts, drawn_cuts, letters

ABCDE = letters(5)
TREE = Tree.read("a b (c (d e))")
AB_CD = Parting(["a", "b"], ["c", "d"])
AC_BD = Parting(["a", "c"], ["b", "d"])


def answers_in(table):
    """All answers of a table, in order."""
    return [table[four] for four in combinations(table.hosts, 4)]


def table_with(hosts, answers):
    """The table of some hosts with these answers, told in order."""
    table = Table(hosts)
    for four, answer in zip(combinations(hosts, 4), answers):
        table[four] = answer
    return table


class MadeTables(Case):

    def test_made(self):
        table = Table(["e", "b", "a", "d", "c"])
        self.same([table.hosts, len(table), answers_in(table)], [ABCDE, 0, [None] * 5])
        self.same([Table(hosts=("a",)).hosts, len(Table(("a",)))], [("a",), 0])

    def test_wrong_hosts(self):
        for value in any_values():
            if not isinstance(value, (list, tuple)) or not value:
                self.raises(BadHosts(None), Table, value)
            if value != "zz":
                self.raises(BadHosts(1), Table, ["a", value])
        self.raises(BadHosts(13), Table, [*letters(13), "a"])
        self.raises(TooMany("hosts", 12), Table, letters(13))
        self.same([Table(letters(12)).hosts, Table.MOST], [letters(12), 12])

    def test_of_tree(self):
        for tree in all_trees(letters(6)):
            table = Table.of_tree(tree)
            answers = [tree(*four) for four in combinations(tree.hosts, 4)]
            self.same([table.hosts, answers_in(table)], [tree.hosts, answers])
        self.same(Table.of_tree(tree=Tree.star("a", "b")), Table(["a", "b"]))

    def test_of_tree_too_many(self):
        self.raises(TooMany("hosts", 12), Table.of_tree, Tree.star(*letters(13)))
        self.raises(TooMany("hosts", 12), Table.of_tree, Tree(*caterpillar_cuts(40)))
        tree = Tree(*caterpillar_cuts(12))
        self.same(len(self.soon(Table.of_tree, tree)), 495)

    def test_arguments_stay(self):
        hosts = ["b", "a"]
        table = Table(hosts)
        hosts.append("c")
        self.same([table.hosts, hosts], [("a", "b"), ["b", "a", "c"]])


class Items(Case):

    def test_asking(self):
        table = Table.of_tree(TREE)
        for four in permutations(ABCDE, 4):
            self.same([table[four], table[list(four)], table(*four)], [TREE(*four)] * 3)
        self.same(table["e", "a", "d", "c"], Parting(["a", "c"], ["d", "e"]))
        self.same(table(d="a", c="b", b="e", a="d"), Parting(["a", "b"], ["d", "e"]))

    def test_setting(self):
        for four in permutations("abcd"):
            for told in (four, list(four)):
                for answer in answers_of(["a", "b", "c", "d"]):
                    table = Table(ABCDE)
                    table[told] = answer
                    self.same(answers_in(table), [answer] + [None] * 4)
        table = Table.of_tree(TREE)
        table["d", "c", "b", "a"] = None
        self.same([table("a", "b", "c", "d"), len(table)], [None, 4])

    def test_wrong_fours(self):
        table = Table.of_tree(TREE)
        wrong = ["abcd", ("a", "b", "c"), ["a", "b", "c", "d", "e"], ("a", "b", "c", "d", "a"),
                 ("a", "b", "c", "a"), ("a", "b", "c", "f"), ["a", "a", "a", "a"], dict.fromkeys("abcd"), AB_CD,
                 ("f", "g", "h", "i"), (("a", "b", "c", "d"),)]
        wrong.extend([["a", "b", value, "c"] for value in any_values()])
        for value in [*any_values(), *wrong]:
            self.raises(BadFour(value), lambda: table[value])
            for answer in (None, AB_CD, 0):
                self.raises(BadFour(value), table.__setitem__, value, answer)
        self.same(table, Table.of_tree(TREE))

    def test_wrong_answers(self):
        table = Table.of_tree(TREE)
        wrong = ["a b / c d", Parting(["a", "b"], ["c", "e"]), ("a", "b"), AB_CD.pairs, TREE, table]
        for value in [*any_values(), *wrong]:
            if value is not None:
                self.raises(BadAnswer(value), table.__setitem__, ("a", "b", "c", "d"), value)
        self.same(table, Table.of_tree(TREE))

    def test_call_errors(self):
        table = Table.of_tree(TREE)
        for value in any_values():
            self.raises(NoHost(value), table, value, "a", "a", "a")
            self.raises(NoHost(value), table, "a", "a", value, "f")
            self.raises(NoHost(value), table, "a", "b", "c", value)
        self.raises(NoHost("f"), table, "a", "f", "g", "a")
        for four in [("a", "b", "c", "a"), ("a", "a", "b", "c"), ("e", "e", "e", "e")]:
            self.raises(BadFour(four), table, *four)

    def test_length_and_contents(self):
        table = Table.of_tree(TREE)
        self.same([len(table), AB_CD in table, Parting(["d", "c"], ("b", "a")) in table, AC_BD in table],
                  [5, True, True, False])
        for value in [*any_values(), "a b / c d", None, Parting(["a", "b"], ["c", "f"]), ("a", "b", "c", "d"), table]:
            self.same(value in table, False)
        table["a", "b", "c", "d"] = AC_BD
        self.same([len(table), AB_CD in table, AC_BD in table], [5, False, True])
        table["a", "b", "c", "d"] = None
        self.same([len(table), AB_CD in table, AC_BD in table], [4, False, False])

    def test_each(self):
        for tree in all_trees(letters(6)):
            self.same(list(Table.of_tree(tree).each()), list(partings_of(tree)))
        table = Table(letters(6))
        for four in reversed(list(combinations(letters(6), 4))):
            table[four] = answers_of(four)[2]
        found = list(table.each())
        self.assertTrue(all(one < other for one, other in zip(found, found[1:])) and len(found) == 15)

    def test_each_is_as_at_the_first_request(self):
        table = Table.of_tree(TREE)
        made = table.each()
        self.assertTrue(hasattr(made, "send"))
        table["a", "b", "c", "d"] = None
        found = [next(made)]
        table["c", "d", "e", "b"] = None
        table["a", "b", "c", "d"] = AB_CD
        found.extend(made)
        self.same([str(one) for one in found], ["a b / c e", "a b / d e", "a c / d e", "b c / d e"])

    def test_no_iteration(self):
        with self.assertRaises(TypeError):
            iter(Table(ABCDE))


class OfTrees(Case):

    def test_all_tables_of_five(self):
        answers = [answers_of(four) for four in combinations(ABCDE, 4)]
        trees = {str([str(one) for one in answers_in(Table.of_tree(tree))]): tree for tree in all_trees(ABCDE)}
        self.assertEqual(len(trees), 26)
        for row in product(*answers):
            table = table_with(ABCDE, row)
            tree = trees.get(str([str(one) for one in row]))
            self.same(table.is_tree, tree is not None)
            self.same(first_misfit(table), ABCDE if tree is None else None)
            if tree is None:
                self.raises(Misfit(ABCDE), table.rebuilt)
            else:
                self.same(table.rebuilt(), tree)

    def test_tables_of_six(self):
        dice = random.Random(6)
        hosts = letters(6)
        trees = list(all_trees(hosts))
        tables = [Table.of_tree(tree) for tree in trees]
        of_five = {five: [Table.of_tree(tree) for tree in all_trees(five)] for five in combinations(hosts, 5)}
        for _ in range(300):
            table = dice.choice(tables).twin()
            for _ in range(dice.randrange(4)):
                four = tuple(dice.sample(hosts, 4))
                table[four] = dice.choice(answers_of(four))
            misfits = [five for five in of_five if table.only(five) not in of_five[five]]
            self.same([table.is_tree, table in tables], [not misfits] * 2)
            self.same(first_misfit(table=table), misfits[0] if misfits else None)
            if misfits:
                self.raises(Misfit(misfits[0]), table.rebuilt)
            else:
                self.same(table.rebuilt(), trees[tables.index(table)])

    def test_rebuilt(self):
        for many in range(1, 7):
            for tree in all_trees(letters(many)):
                table = Table.of_tree(tree)
                self.same([table.rebuilt(), table.is_tree, first_misfit(table)], [tree, True, None])
        for seed in range(60):
            tree = Tree(*drawn_cuts(seed, 7 + seed % 6))
            self.same(self.soon(Table.of_tree(tree).rebuilt), tree)

    def test_up_to_four_hosts(self):
        for many in (1, 2, 3):
            table = Table(letters(many))
            self.same([table.is_tree, table.rebuilt(), first_misfit(table), len(table), list(table.each())],
                      [True, Tree.star(*letters(many)), None, 0, []])
        for answer in answers_of(letters(4)):
            table = table_with(letters(4), [answer])
            self.same([table.is_tree, len(table.rebuilt()), table.rebuilt()(*"abcd")],
                      [True, int(answer is not None), answer])

    def test_the_property_is_up_to_date(self):
        table = Table.of_tree(TREE)
        self.same(table.is_tree, True)
        table["a", "b", "c", "d"] = None
        self.same([table.is_tree, first_misfit(table)], [False, ABCDE])
        with table.trial():
            table["a", "b", "c", "d"] = AB_CD
            self.same(table.is_tree, True)
        self.same(table.is_tree, False)
        table["a", "b", "c", "d"] = AB_CD
        self.same([table.is_tree, table.rebuilt()], [True, TREE])

    def test_twelve_hosts(self):
        for tree in [Tree(*caterpillar_cuts(12)), Tree.star(*letters(12)), Tree(*drawn_cuts(5, 12))]:
            table = Table.of_tree(tree)
            self.same(self.soon(lambda: table.is_tree), True)
            self.same(self.soon(table.rebuilt), tree)
            four = ("h", "j", "k", "l")
            table[four] = [answer for answer in answers_of(four) if answer != table[four]][-1]
            self.same(self.soon(lambda: table.is_tree), False)
            self.same(first_misfit(table), ("a", *four))

    def test_one_to_twelve_hosts(self):
        for many in range(1, 13):
            tree = Tree(*caterpillar_cuts(many)) if many > 3 else Tree.star(*letters(many))
            table = Table.of_tree(tree)
            self.same([table.is_tree, first_misfit(table), table.rebuilt()], [True, None, tree])
            for four in list(combinations(letters(many), 4))[::17]:
                kept = table[four]
                for answer in answers_of(four):
                    table[four] = answer
                    five = tuple(sorted({*four, [host for host in letters(5) if host not in four][0]}))
                    misfit = None if answer == kept or many == 4 else five
                    self.same([table.is_tree, first_misfit(table)], [misfit is None, misfit])
                table[four] = kept
            self.same([table.is_tree, table.rebuilt()], [True, tree])

    def test_up_to_date_inside_a_trial_and_behind_it(self):
        table = Table.of_tree(Tree(*caterpillar_cuts(7)))
        four = ("b", "c", "e", "g")
        table.is_tree
        with table.trial():
            table[four] = None
            self.same([table.is_tree, first_misfit(table)], [False, ("a", *four)])
            with table.trial():
                table[four] = Parting(["b", "c"], ["e", "g"])
                self.same([table.is_tree, first_misfit(table)], [True, None])
            self.same([table.is_tree, first_misfit(table)], [False, ("a", *four)])
            self.raises(Misfit(("a", *four)), table.rebuilt)
        self.same([table.is_tree, first_misfit(table)], [True, None])
        self.raises(NoHost("x"), table.tried, lambda same: same("x", "x", "x", "x"))
        self.same(table.is_tree, True)

    def test_the_first_five(self):
        table = Table(letters(8))
        four = ("c", "d", "f", "g")
        table[four] = answers_of(four)[1]
        self.same(first_misfit(table), ("a", *four))
        table["a", "b", "g", "h"] = Parting(["a", "b"], ["g", "h"])
        self.same(first_misfit(table), ("a", "b", "c", "g", "h"))
        self.raises(Misfit(("a", "b", "c", "g", "h")), table.rebuilt)


    def test_drawn_tables_beside_a_plain_look(self):
        fitting = {}
        for tree in all_trees(ABCDE):
            fitting[tuple(tree(*four) and tree(*four).pairs for four in combinations(ABCDE, 4))] = True

        def plain(table):
            """The first five by a look at each five of the table, with other names."""
            for five in combinations(table.hosts, 5):
                names = dict(zip(five, ABCDE))
                row = [table[four] for four in combinations(five, 4)]
                pairs = [one and tuple(tuple(names[host] for host in pair) for pair in one.pairs) for one in row]
                if tuple(pairs) not in fitting:
                    return five
            return None

        for seed in range(60):
            dice = random.Random(seed)
            hosts = letters(dice.randint(6, 9))
            table = Table.of_tree(Tree(*drawn_cuts(seed, len(hosts))))
            for change in range(dice.randint(1, 4)):
                four = tuple(sorted(dice.sample(hosts, 4)))
                with table.trial():
                    table[four] = dice.choice(answers_of(four))
                    self.same([first_misfit(table), table.is_tree], [plain(table), plain(table) is None])
                    twin = table.twin()
                self.same(first_misfit(twin), plain(twin))
                some = twin.only(dice.sample(hosts, 6))
                self.same(first_misfit(some), plain(some))
                table = twin if change % 2 == 0 else table
                self.same(first_misfit(table), plain(table))

    def test_ordinary_calls_are_quick(self):
        table = Table.of_tree(Tree.star(*letters(12)))
        table["a", "b", "c", "d"] = AB_CD
        seven = Table(letters(7))

        def timed(call):
            start = time.perf_counter()
            for _ in range(1000):
                call()
            return time.perf_counter() - start

        self.assertLess(timed(lambda: table.is_tree), 0.4)
        self.assertLess(timed(lambda: first_misfit(table)), 0.4)
        self.assertLess(timed(lambda: Table(list(letters(12)))), 0.5)
        self.assertLess(timed(seven.twin), 0.15)
        self.assertLess(timed(lambda: table.only(letters(7))), 0.2)


class Parts(Case):

    def test_only(self):
        fours = list(combinations(letters(6), 4))
        table = table_with(letters(6), [answers_of(four)[at % 4] for at, four in enumerate(fours)])
        for many in range(1, 7):
            for some in combinations(letters(6), many):
                found = table.only(list(reversed(some)))
                self.same([found.hosts, answers_in(found)], [some, [table[four] for four in combinations(some, 4)]])
        found = table.only(hosts=letters(5))
        found["a", "b", "c", "d"] = AB_CD
        self.same(table["a", "b", "c", "d"], None)

    def test_only_errors(self):
        table = Table.of_tree(TREE)
        for value in any_values():
            if not isinstance(value, (list, tuple)) or not value:
                self.raises(BadHosts(None), table.only, value)
            if value != "zz":
                self.raises(BadHosts(1), table.only, ["f", value])
        self.raises(BadHosts(2), table.only, ("f", "a", "f"))
        self.raises(NoHost("f"), table.only, ["a", "g", "f"])
        self.raises(NoHost("aa"), table.only, ("f", "b", "aa"))
        self.raises(NoHost("f"), table.only, letters(13))
        self.raises(TooMany("hosts", 40), table.only, letters(41))

    def test_twin(self):
        table = Table.of_tree(TREE)
        twin = table.twin()
        self.same([twin, twin.hosts, twin is table], [table, ABCDE, False])
        twin["a", "b", "c", "d"] = None
        self.same([len(twin), len(table), twin == table], [4, 5, False])
        table["a", "b", "c", "e"] = None
        self.same([twin["a", "b", "c", "e"] is None, twin == table], [False, False])

    def test_equality(self):
        table = Table.of_tree(TREE)
        self.same([table == Table.of_tree(TREE), table != Table.of_tree(TREE)], [True, False])
        self.same(table == Table(ABCDE), False)
        self.same([Table(["a", "b"]) == Table(["a", "c"]), Table(["a"]) == Table(["a"])], [False, True])
        for value in [*any_values(), TREE, list(table.each()), table.hosts]:
            self.same([table == value, value == table, table != value], [False, False, True])

    def test_order(self):
        tables = [Table.of_tree(tree) for tree in all_trees(ABCDE)]
        tables.extend(table_with(ABCDE, row) for row in [[AB_CD], [AC_BD], [None, Parting(["a", "b"], ["c", "e"])]])
        for one, other in product(tables, tables):
            below = all(parting in list(other.each()) for parting in one.each())
            above = all(parting in list(one.each()) for parting in other.each())
            self.same([one <= other, one >= other], [below, above])

    def test_unlike(self):
        table = Table.of_tree(TREE)
        for other in [Table(letters(4)), Table(letters(6)), Table(["a", "b", "c", "d", "f"])]:
            self.raises(Unlike(), lambda: table <= other)
            self.raises(Unlike(), lambda: table >= other)
            self.raises(Unlike(), lambda: other <= table)
        self.raises(Unlike(), lambda: table <= TREE)


class Trials(Case):

    def change(self, table):
        """Sets and takes away some answers."""
        table["a", "b", "c", "d"] = AC_BD
        table["b", "c", "d", "e"] = None

    def test_behind_the_block(self):
        table = Table.of_tree(TREE)
        with table.trial() as same:
            self.assertIs(same, table)
            self.change(table)
            self.same([len(table), table.is_tree], [4, False])
        self.same([table, table.is_tree], [Table.of_tree(TREE), True])

    def test_an_error_goes_on(self):
        table = Table.of_tree(TREE)
        for error in (BadFour("x"), KeyError("x"), KeyboardInterrupt()):
            with self.assertRaises(type(error)) as caught:
                with table.trial():
                    self.change(table)
                    raise error
            self.assertIs(caught.exception, error)
            self.same(table, Table.of_tree(TREE))

    def test_an_error_of_the_table(self):
        table = Table.of_tree(TREE)
        with self.assertRaises(BadAnswer):
            with table.trial() as same:
                self.change(same)
                same["a", "b", "c", "e"] = AB_CD
        self.same(table, Table.of_tree(TREE))

    def test_within_another_one(self):
        table = Table.of_tree(TREE)
        with table.trial():
            table["a", "b", "c", "e"] = None
            now = table.twin()
            with table.trial() as inner:
                self.assertIs(inner, table)
                self.change(table)
                with self.assertRaises(NoHost):
                    with table.trial():
                        table["a", "c", "d", "e"] = None
                        table("a", "b", "c", "x")
                self.same(len(table), 3)
            self.same([table, len(table)], [now, 4])
            self.change(table)
        self.same(table, Table.of_tree(TREE))

    def test_the_block_begins_behind_the_call(self):
        table = Table.of_tree(TREE)
        trial = table.trial()
        self.change(table)
        now = table.twin()
        with trial:
            table["a", "b", "d", "e"] = None
        self.same([table, now == Table.of_tree(TREE)], [now, False])

    def test_a_table_left_by_a_return(self):
        table = Table.of_tree(TREE)

        def leave():
            with table.trial():
                self.change(table)
                return len(table)
        self.same([leave(), table], [4, Table.of_tree(TREE)])

    def test_the_table_can_change_behind_it(self):
        table = Table.of_tree(TREE)
        twin = table.twin()
        with table.trial():
            pass
        self.change(table)
        with table.trial():
            table["a", "b", "c", "d"] = None
        self.same([table["a", "b", "c", "d"], len(table), twin], [AC_BD, 4, Table.of_tree(TREE)])

    def test_tried(self):
        table = Table.of_tree(TREE)
        seen = []

        def work(same):
            seen.append(same)
            self.change(same)
            return [len(same)]
        self.same([table.tried(work), table.tried(work=work)], [[4], [4]])
        self.assertTrue(all(one is table for one in seen))
        self.same(table, Table.of_tree(TREE))
        self.same(table.tried(lambda same: same.tried(work)), [4])
        self.same(table.tried(lambda same: None), None)

        def fail(same):
            self.change(same)
            raise Unlike()
        self.raises(Unlike(), table.tried, fail)
        self.same(table, Table.of_tree(TREE))
