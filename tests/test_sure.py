import random
from functools import cache
from itertools import combinations, permutations

from seenframes.errors import BadFour, NothingFits
from seenframes.frames import Frame, History
from seenframes.partings import answers_of
from seenframes.records import Record
from seenframes.sure import Finding, Open, Sure, barren, judge, shows_barren, shows_finding
from seenframes.trees import Tree, all_trees
from tests.support import Case, any_values, drawn_frames, letters

TREE = Tree.read("a b (c (d e))")
STAR = Tree.star(*letters(4))


@cache
def records():
    """Records of four to six hosts that some tree fits: of rows that tell all about four hosts, and of drawn ones."""
    found = []
    trees = [*all_trees(letters(4))] * 3 + [*all_trees(letters(5))] + [*all_trees(letters(6))][::70]
    for seed, tree in enumerate(trees):
        a, b, c, d = random.Random(seed).sample(tree.hosts, 4)
        row = History.read(f"{b} {c}, {c} {b}, {a} {c}, {b} {a}, {d} {c}, {b} {d}")
        found.append(Record.seen_of(tree, row, None if seed % 5 else (a, b, d)))
    for seed in range(24):
        many = 4 + seed % 2
        trees = list(all_trees(letters(many)))
        watchers = [None, letters(many)[1:3], (), letters(many)[2:]][seed % 4]
        row = History.of(drawn_frames(seed, letters(many), seed % 17))
        found.append(Record.seen_of(trees[seed * 11 % len(trees)], row, watchers))
    return found


@cache
def judged():
    """Pairs of these records and what is told about four of their hosts."""
    return [(record, judge(record, four)) for record in records() for four in combinations(record.hosts, 4)]


def barren_records():
    """Records that no tree fits."""
    one = Record(letters(4))
    one.note(Frame("a", "b"), "b", "c", "d")
    one.note(Frame("c", "a"), "d")
    other = Record(letters(5), ["b", "e"])
    other.note(Frame("a", "c"), "b", "e")
    other.note(Frame("c", "a"), "e")
    last = Record(["a", "b"])
    last.note(Frame("a", "b"))
    return [one, other, last]


def plain_finding(record, four):
    """What is told about four hosts, looked at tree by tree."""
    trees = list(all_trees(record.hosts))
    answers = {}
    for tree in trees:
        if record.fault(tree) is None:
            answers.setdefault(str(tree(*four)), tree)
    if len(answers) == 1:
        answer = list(answers.values())[0](*four)
        return Sure(tuple(sorted(four)), answer, tuple([
            record.fault(tree) for tree in trees if tree(*four) != answer]))
    found = [answers[str(answer)] for answer in answers_of(four) if str(answer) in answers]
    return Open(tuple(sorted(four)), tuple(found))


class Judge(Case):

    def test_tree_by_tree(self):
        kinds = {}
        for record in records():
            for four in combinations(record.hosts, 4):
                wanted = plain_finding(record, four)
                found = judge(record, four)
                self.same([type(found), found, found.four], [type(wanted), wanted, four])
                if isinstance(found, Sure):
                    self.same([found.answer, found.faults, bool(found)], [wanted.answer, wanted.faults, True])
                    kinds["sure", str(found.answer)[:1]] = True
                else:
                    self.same([found.trees, bool(found)], [wanted.trees, False])
                    kinds["open", len(found.trees)] = True
                self.same([shows_finding(record, found), isinstance(found, Finding)], [True, True])
        self.assertTrue({("sure", "N"), ("sure", "a"), ("open", 2), ("open", 4)} <= set(kinds), kinds)

    def test_fours_in_any_order(self):
        record = records()[9]
        for four in permutations(("a", "b", "c", "d")):
            self.same([judge(record, four), judge(record, list(four)), judge(record=record, four=four)],
                      [judge(record, letters(4))] * 3)

    def test_wrong_fours(self):
        for record in [records()[2], *barren_records()]:
            values = [*any_values(), "abcd", ("a", "b", "c"), ("a", "b", "c", "a"), ("a", "b", "c", "x"), letters(5),
                      ["a", "b", "c", None], {"a": 0, "b": 0, "c": 0, "d": 0}, (("a",), "b", "c", "d")]
            for value in values:
                self.raises(BadFour(value), judge, record, value)

    def test_nothing_fits(self):
        for record in barren_records()[:2]:
            self.raises(NothingFits(), judge, record, ["d", "c", "b", "a"])
        self.raises(BadFour(("a", "b", "c", "e")), judge, barren_records()[0], ("a", "b", "c", "e"))

    def test_nothing_changes(self):
        record = records()[-5]
        twin = record.twin()
        judge(record, letters(4))
        barren(record)
        shows_finding(record, judge(record, letters(4)))
        self.same([record, record.history], [twin, twin.history])

    def test_bounds(self):
        for tree in list(all_trees(letters(6)))[::60]:
            for row in (History.of([Frame("a", "b")] * 20), History.of(drawn_frames(3, tree.hosts, 20))):
                record = Record.seen_of(tree, row)
                for four in list(combinations(letters(6), 4))[::5]:
                    found = self.soon(judge, record, four)
                    self.same(self.soon(shows_finding, record, found), True)
                self.same(self.soon(barren, record), None)


class Barren(Case):

    def test_a_tree_fits(self):
        for record in records():
            self.same([barren(record), shows_barren(record, None), shows_barren(record, ())], [None, False, False])
            faults = tuple([record.fault(tree) for tree in all_trees(record.hosts)])
            self.same(shows_barren(record, faults), False)

    def test_no_tree_fits(self):
        for record in barren_records():
            faults = tuple([record.fault(tree) for tree in all_trees(record.hosts)])
            self.same([barren(record), barren(record=record), shows_barren(record, faults)], [faults, faults, True])
            self.same(shows_barren(record=record, value=faults), True)

    def test_one_thing_otherwise(self):
        for record in barren_records()[:2]:
            faults = barren(record)
            wrong = [list(faults), faults[:-1], faults + faults[:1], faults[1:], (), None, *faults,
                     tuple([list(fault) for fault in faults]), tuple([fault[::-1] for fault in faults])]
            for at, (k, host) in enumerate(faults):
                for other in [(k + 1, host), (k, "a" if host != "a" else "b"), None, (k, host, host), (str(k), host),
                              [k, host], (k,), (-k - 1, host)]:
                    wrong.append((*faults[:at], other, *faults[at + 1:]))
            if faults != faults[::-1]:
                wrong.append(faults[::-1])
            for value in [*wrong, *any_values(), record]:
                self.same(shows_barren(record, value), False)

    def test_true_for_1(self):
        record = barren_records()[0]
        faults = barren(record)
        self.assertTrue(all(k == 1 for k, _ in faults))
        self.same(shows_barren(record, ((True, faults[0][1]), *faults[1:])), False)
        self.same(shows_barren(record, faults[:-1] + ((True, faults[-1][1]),)), False)


class ShowsFinding(Case):

    def sure_ones(self):
        """Records with what is sure about four of their hosts."""
        return [(record, found) for record, found in judged() if found and len(found.faults) > 1]

    def open_ones(self):
        """Records with what is open about four of their hosts."""
        return [(record, found) for record, found in judged() if not found]

    def test_other_kinds(self):
        for record in (records()[5], barren_records()[0], Record(["a", "b", "c"])):
            for value in [*any_values(), record, STAR, ("a", "b", "c", "d")]:
                self.same(shows_finding(record, value), False)
                self.same([shows_finding(record, Sure(value, None, ())), shows_finding(record, Open(value, ()))],
                          [False, False])
                self.same(shows_finding(record, Open(letters(4), value)), False)
                self.same(shows_finding(record, Sure(letters(4), None, value)), False)

    def test_sure_with_one_thing_otherwise(self):
        seen = 0
        for record, found in self.sure_ones():
            seen += 1
            four, answer, faults = found.four, found.answer, found.faults
            wrong = [Sure(list(four), answer, faults), Sure(four[::-1], answer, faults), Sure(four[:3], answer, faults),
                     Sure((*four[:3], "x"), answer, faults), Sure((*four, four[0]), answer, faults),
                     Sure(four, str(answer), faults), Sure(four, answer and answer.pairs, faults[1:]),
                     Sure(four, answer, list(faults)), Sure(four, answer, faults[1:]), Sure(four, answer, faults[:-1]),
                     Sure(four, answer, (*faults, faults[-1])), Sure(four, answer, ()), Sure(four, answer, None),
                     Sure(four, answer, (None, *faults[1:])), Sure(four, answer, (list(faults[0]), *faults[1:])),
                     Open(four, faults), Open(four, (STAR, STAR)), Open(four, ())]
            for other in answers_of(four):
                if other != answer:
                    wrong.append(Sure(four, other, faults))
                    wrong.append(Sure(four, other, tuple([
                        record.fault(tree) for tree in all_trees(record.hosts) if tree(*four) != other])))
            k, host = faults[0]
            for other in [(k + 1, host), (k, "x"), (host, k), (k, host, None), (k, [host]), (str(k), host)]:
                wrong.append(Sure(four, answer, (other, *faults[1:])))
            swapped = faults[1:] + faults[:1]
            if swapped != faults:
                wrong.append(Sure(four, answer, swapped))
            for value in wrong:
                self.same(shows_finding(record, value), False)
            self.same(shows_finding(record=record, value=Sure(four, answer, faults)), True)
        self.assertGreater(seen, 20)

    def test_two_notes_tell_nothing(self):
        # So no fault of a Sure has an index for which a bool could stand.
        for _, found in self.sure_ones():
            self.assertTrue(all(k >= 2 for k, _ in found.faults))

    def test_open_with_one_thing_otherwise(self):
        seen = 0
        for record, found in self.open_ones():
            seen += 1
            four, trees = found.four, found.trees
            wrong = [Open(list(four), trees), Open(four[::-1], trees), Open(four, list(trees)), Open(four, trees[::-1]),
                     Open(four, trees[:1]), Open(four, ()), Open(four, (*trees, trees[-1])), Open(four, None),
                     Open(four, (trees[0], *trees)), Open(four, (*trees[1:], trees[0])), Open(four, trees[0]),
                     Open(four, tuple([str(tree) for tree in trees])), Open(four, (*trees[:-1], None)),
                     Open(four, (*trees[:-1], trees[-1].renamed({host: host * 2 for host in record.hosts}))),
                     Sure(four, trees, ()), Sure(four, trees[0](*four), ()),
                     Sure(four, trees[0](*four), tuple([record.fault(tree) for tree in trees]))]
            for value in wrong:
                self.same(shows_finding(record, value), False)
        self.assertGreater(seen, 20)

    def test_trees_that_do_not_fit(self):
        seen = 0
        for record, found in self.open_ones():
            for tree in list(all_trees(record.hosts))[::1 if len(record.hosts) < 6 else 9]:
                answer = tree(*found.four)
                for at, other in enumerate(found.trees):
                    if answer == other(*found.four):
                        trees = (*found.trees[:at], tree, *found.trees[at + 1:])
                        self.same(shows_finding(record, Open(found.four, trees)), record.fits(tree))
                        seen += not record.fits(tree)
        self.assertGreater(seen, 100)

    def test_not_all_answers(self):
        seen = 0
        for record, found in self.open_ones():
            for many in range(2, len(found.trees) + 1 if len(record.hosts) < 6 else 3):
                for trees in combinations(found.trees, many):
                    self.same(shows_finding(record, Open(found.four, trees)), True)
                    seen += 1
        self.assertGreater(seen, 50)

    def test_nothing_fits(self):
        record = barren_records()[0]
        trees = tuple(all_trees(letters(4)))
        for answer in answers_of(letters(4)):
            others = tuple([record.fault(tree) for tree in trees if tree(*"abcd") != answer])
            for faults in [(), barren(record), others]:
                self.same(shows_finding(record, Sure(letters(4), answer, faults)), False)
        self.same(shows_finding(record, Open(letters(4), trees)), False)

    def test_many_trees(self):
        record = Record(letters(4))
        self.same(self.soon(shows_finding, record, Open(letters(4), (STAR,) * 3000)), False)
        star, last, middle, first = all_trees(letters(4))
        self.same(shows_finding(record, Open(letters(4), (star, first, middle, last))), True)
        self.same(shows_finding(record, Open(letters(4), (star, first, middle, last, last))), False)


class Papers(Case):

    def test_attributes(self):
        for value in any_values():
            self.same([Sure(value, 1, 2).four, Sure(four=1, answer=value, faults=2).answer, Sure(1, 2, value).faults],
                      [value] * 3)
            self.same([Open(value, 1).four, Open(four=1, trees=value).trees], [value] * 2)

    def test_equality(self):
        one, other = Sure(letters(4), None, ((1, "a"),)), Open(letters(4), (STAR, TREE))
        same = Sure(letters(4), None, ((1, "a"),))
        self.same([one == same, one != same], [True, False])
        self.same([other == Open(letters(4), (Tree.star(*letters(4)), TREE)), other != one], [True, True])
        for wrong in [Sure(letters(3), None, ((1, "a"),)), Sure(letters(4), 0, ((1, "a"),)), Sure(letters(4), None, ()),
                      other, *any_values()]:
            self.same([one == wrong, wrong == one, one != wrong], [False, False, True])
        for wrong in [Open(letters(3), other.trees), Open(letters(4), (TREE, STAR)), one, *any_values()]:
            self.same([other == wrong, wrong == other, other != wrong], [False, False, True])

    def test_truth(self):
        for value in any_values():
            self.same([bool(Sure(value, value, value)), bool(Open(value, value))], [True, False])
