"""Records, and with them what they have of Notes."""

from itertools import combinations

from seenframes.errors import (
    BadFrame, BadHosts, BadIndex, BadSight, Begun, NoChange, NoHost, SeenError, TooMany, Unlike)
from seenframes.frames import Frame, History, frames_among
from seenframes.networks import Network
from seenframes.notes import Notes
from seenframes.records import Record
from seenframes.tables import Table
from seenframes.trees import Tree, all_trees
from tests.support import Case, any_values, drawn_frames, letters

TREE = Tree.read("a b (c (d e))")
ROW = History.read("b c, c b, a c, d *, e a")
WORDS = letters(4)


def noted(watchers=None):
    """A record with some notes."""
    record = Record(letters(5), watchers)
    record.note(Frame("a", "b"), *[host for host in "bce" if host in record.watchers])
    record.note(Frame("b"), *[host for host in "a" if host in record.watchers])
    record.note(Frame("d", "a"))
    return record


def all_of(record):
    """All that is told of a record."""
    return [record.hosts, record.watchers, record.history, len(record), [record[k] for k in range(len(record))],
            [record.fault(tree) for tree in all_trees(record.hosts)]]


def plain_fault(tree, watchers, notes):
    """The fault of a tree by a live network of it; None if it fits."""
    net = Network(tree)
    for at, (frame, seen) in enumerate(notes):
        sight = net.send(frame)
        for host in tree.hosts:
            if host in watchers and (host in sight) is not (host in seen):
                return (at, host)
    return None


class Made(Case):

    def test_made(self):
        record = Record(["c", "a", "b"])
        self.same([record.hosts, record.watchers, record.history, len(record)],
                  [("a", "b", "c"), ("a", "b", "c"), History(), 0])
        record = Record(hosts=("b", "a"), watchers=["b"])
        self.same([record.hosts, record.watchers], [("a", "b"), ("b",)])
        self.same([Record(["a"], watchers).watchers for watchers in ((), [], None)], [(), (), ("a",)])
        self.same(Record(letters(6), ["f", "c", "a"]).watchers, ("a", "c", "f"))
        self.same([Record.MOST, Record.LONGEST, record.MOST, record.LONGEST], [6, 20, 6, 20])
        self.assertIsInstance(record, Notes)

    def test_wrong_hosts(self):
        for value in any_values():
            if not isinstance(value, (list, tuple)) or not value:
                self.raises(BadHosts(None), Record, value)
                self.raises(BadHosts(None), Record, value, value)
            if value != "zz":
                self.raises(BadHosts(1), Record, ["a", value], "x")
        self.raises(BadHosts(1), Record, ["a", "a"])
        self.raises(BadHosts(6), Record, [*letters(6), "a"])
        self.raises(TooMany("hosts", 6), Record, letters(7))
        self.raises(TooMany("hosts", 6), Record, letters(7), "x")
        self.same(len(Record(letters(6)).hosts), 6)

    def test_wrong_watchers(self):
        record = Record(["a", "b"])
        values = [*any_values(), "a", "ab", ("a", "a"), ["b", "a", "b"], ["c"], ("a", None), ("a", 1), {"a": 0},
                  [["a"]], ("a", ("b",)), Record(["a"])]
        for value in values:
            if value is not None and value not in ((), []):
                self.raises(BadSight(value), Record, ["a", "b"], value)
                self.raises(BadSight(value), record.set_watchers, value)
                with self.assertRaises(BadSight) as caught:
                    record.watchers = value
                self.same_error(caught.exception, BadSight(value))
        self.same(record.watchers, ("a", "b"))

    def test_arguments_stay(self):
        hosts, watchers = ["b", "a"], ["a"]
        record = Record(hosts, watchers)
        seen = ["a"]
        record += (Frame("b", "a"), seen)
        for told in (hosts, watchers, seen):
            told.append("c")
        self.same([record.hosts, record.watchers, record[0]], [("a", "b"), ("a",), (Frame("b", "a"), ("a",))])


class Watchers(Case):

    def test_set(self):
        record = Record(letters(4))
        for watchers, wanted in [(["d", "b"], ("b", "d")), ((), ()), (("a",), ("a",)), (None, letters(4)), ([], ())]:
            record.watchers = ["c"]
            self.same(record.set_watchers(watchers), None)
            self.same(record.watchers, wanted)
            record.watchers = ["c"]
            record.watchers = watchers
            self.same(record.watchers, wanted)
        record.set_watchers(watchers=("c", "a"))
        self.same(record.watchers, ("a", "c"))

    def test_begun(self):
        record = noted()
        now = all_of(record)
        for watchers in (["a"], (), None, letters(5)):
            self.raises(Begun(), record.set_watchers, watchers)
            with self.assertRaises(Begun) as caught:
                record.watchers = watchers
            self.same_error(caught.exception, Begun())
        for wrong in ("a", ["x"], ("a", "a"), 0):
            self.raises(BadSight(wrong), record.set_watchers, wrong)
            with self.assertRaises(BadSight) as caught:
                record.watchers = wrong
            self.same_error(caught.exception, BadSight(wrong))
        self.same(all_of(record), now)
        for _ in range(3):
            record.back()
        record.watchers = ["e"]
        self.same(record.watchers, ("e",))

    def test_they_count(self):
        record = Record(letters(4), ["d"])
        self.raises(BadSight("b"), record.note, Frame("a", "b"), "b")
        record.watchers = ["b"]
        record.note(Frame("a", "b"), "b")
        self.same(record[0], (Frame("a", "b"), ("b",)))


class Noting(Case):

    def test_note(self):
        record = Record(letters(4), ["b", "d", "c"])
        self.same(record.note(Frame("a", "c"), "d", "b"), None)
        record.note(Frame("b"))
        record.note(seen_frame := Frame("c", "a"), *["b"])
        self.same([len(record), record.history, record[0], record[1], record[2]],
                  [3, History(Frame("a", "c"), Frame("b"), seen_frame), (Frame("a", "c"), ("b", "d")), (Frame("b"), ()),
                   (seen_frame, ("b",))])
        record.note(frame=Frame("d"))
        self.same(record[3], (Frame("d"), ()))

    def test_in_place(self):
        record = same = Record(letters(4), ["b", "d", "c"])
        record += (Frame("a", "c"), ["d", "b"])
        record += (Frame("b"), ())
        record += (Frame("c", "a"), ("b",))
        self.assertIs(record, same)
        self.same([record[0], record[1], record[2]],
                  [(Frame("a", "c"), ("b", "d")), (Frame("b"), ()), (Frame("c", "a"), ("b",))])

    def test_no_frame(self):
        record = noted()
        now = all_of(record)
        for value in [*any_values(), "a b", ("a", "b"), History(Frame("a", "b"))]:
            if not isinstance(value, Frame):
                self.raises(BadFrame("frame"), record.note, value)
                self.raises(BadFrame("frame"), record.note, value, "x", "x")
                self.raises(BadFrame("frame"), record.__iadd__, (value, ["x"]))
        self.same(all_of(record), now)

    def test_no_host(self):
        record = noted()
        now = all_of(record)
        for frame, name in [(Frame("x"), "x"), (Frame("x", "y"), "x"), (Frame("x", "a"), "x"), (Frame("a", "x"), "x")]:
            self.raises(NoHost(name), record.note, frame)
            self.raises(NoHost(name), record.note, frame, "y", None)
            self.raises(NoHost(name), record.__iadd__, (frame, ["x"]))
        self.same(all_of(record), now)

    def test_bad_sights(self):
        record = Record(letters(5), ["a", "b", "c"])
        for value in [*any_values(), "d", "x", ("b",), ["b"], Frame("b")]:
            self.raises(BadSight(value), record.note, Frame("a", "d"), value)
            self.raises(BadSight(value), record.note, Frame("a", "d"), "b", value, "a", None)
            self.raises(BadSight(value), record.__iadd__, (Frame("a", "d"), ["c", value, 0]))
        self.raises(BadSight("a"), record.note, Frame("a"), "b", "a", "x")
        self.raises(BadSight("b"), record.note, Frame("a"), "b", "c", "b", "a")
        self.raises(BadSight("c"), record.note, Frame("b"), "c", "a", "c")
        self.raises(BadSight("a"), Record(["a", "b"], []).note, Frame("b", "a"), "a")
        self.same([len(record), record.history], [0, History()])

    def test_bad_pairs(self):
        record = Record(letters(3))
        values = [*any_values(), [Frame("a"), ["b"]], (Frame("a"),), (Frame("a"), "b"), (Frame("a"), None),
                  (Frame("a"), ["b"], ["c"]), (Frame("a"), {"b": 0}), Frame("a"), (None, "b"), (1, 2, 3)]
        for value in values:
            if value != ([], {}):
                with self.assertRaises(BadSight) as caught:
                    record += value
                self.same_error(caught.exception, BadSight(value))
        self.raises(BadFrame("frame"), record.__iadd__, (None, []))
        self.raises(NoHost("x"), record.__iadd__, (Frame("x"), [0]))
        self.same(len(record), 0)

    def test_twenty_notes(self):
        record = Record(letters(3))
        for _ in range(20):
            record.note(Frame("a", "b"), "b")
        now = all_of(record)
        self.raises(TooMany("notes", 20), record.note, Frame("a", "b"), "b")
        self.raises(TooMany("notes", 20), record.__iadd__, (Frame("a", "b"), ["b"]))
        self.raises(BadSight("a"), record.note, Frame("a", "b"), "a")
        self.raises(BadSight("x"), record.__iadd__, (Frame("a", "b"), ["b", "x"]))
        self.raises(NoHost("x"), record.note, Frame("a", "x"), "a")
        self.raises(BadFrame("frame"), record.note, "a b")
        self.raises(BadSight(("a", "b")), record.__iadd__, ("a", "b"))
        self.same([len(record), all_of(record)], [20, now])
        record.back()
        record.note(Frame("c"))
        self.same(record[19], (Frame("c"), ()))

    def test_items(self):
        record = noted()
        self.same([record[at] for at in range(3)],
                  [(Frame("a", "b"), ("b", "c", "e")), (Frame("b"), ("a",)), (Frame("d", "a"), ())])
        for value in [*any_values(), 3, -1, 99, "0", (0,), slice(0, 1)]:
            if value not in (0, 1, 2) or isinstance(value, bool):
                self.raises(BadIndex(value), lambda: record[value])
        self.raises(BadIndex(0), lambda: Record(["a"])[0])
        with self.assertRaises(TypeError):
            iter(record)

    def test_back(self):
        record = noted()
        steps = [record.twin()]
        for _ in range(3):
            note = record[len(record) - 1]
            self.same(record.back(), note)
            steps.append(record.twin())
        self.same([len(one) for one in steps], [3, 2, 1, 0])
        now = all_of(record)
        self.raises(NoChange(), record.back)
        self.same([all_of(record), steps[0]], [now, noted()])


class Twins(Case):

    def test_twins_go_their_own_ways(self):
        for watchers in (None, [], ["a", "e"]):
            record = noted(watchers)
            now = all_of(record)
            twin = record.twin()
            self.same([type(twin), twin, all_of(twin), twin is record], [Record, record, now, False])
            twin.note(Frame("c"))
            self.same([all_of(record), twin == record, len(twin)], [now, False, 4])
            record.back()
            record.back()
            record.back()
            record.watchers = ["b"]
            self.same([twin.watchers, len(twin)], [noted(watchers).watchers, 4])

    def test_equality(self):
        self.same([noted() == noted(), noted() != noted(), noted() == noted(["a"])], [True, False, False])
        record = noted()
        record.back()
        self.same([record == noted(), record != noted()], [False, True])
        record.note(Frame("d", "a"), "b")
        self.same(record == noted(), False)
        self.same([Record(["a", "b"]) == Record(["b", "a"], ["a", "b"]), Record(["a"]) == Record(["b"]),
                   Record(["a", "b"], ["a"]) == Record(["a", "b"], ["b"])], [True, False, False])
        self.same([Record(["a", "b"], ["a"]) == Record(["a", "c"], ["a"]), Record(["a"], ()) == Record(["b"], ())],
                  [False, False])
        for value in [*any_values(), TREE, record.history, record[0]]:
            self.same([record == value, value == record, record != value], [False, False, True])


class Trials(Case):

    def change(self, record):
        """Takes two notes back and adds some."""
        record.back()
        record.back()
        record.note(Frame("c"))
        record += (Frame("b", "c"), [])
        record.note(Frame("c", "b"))
        record.note(Frame("a", "b"))

    def test_behind_the_block(self):
        record = noted()
        now = all_of(record)
        with record.trial() as same:
            self.assertIs(same, record)
            self.change(record)
            self.same(len(record), 5)
        self.same(all_of(record), now)

    def test_watchers_set_in_it(self):
        record = Record(letters(4), ["b", "c"])
        with record.trial():
            record.watchers = ["a"]
            record.note(Frame("b", "a"), "a")
            with record.trial():
                record.back()
                record.set_watchers([])
            self.same([record.watchers, len(record)], [("a",), 1])
        self.same([record.watchers, len(record)], [("b", "c"), 0])

    def test_an_error_goes_on(self):
        record = noted()
        now = all_of(record)
        for error in (NoChange(), KeyError("x"), KeyboardInterrupt()):
            with self.assertRaises(type(error)) as caught:
                with record.trial():
                    self.change(record)
                    raise error
            self.assertIs(caught.exception, error)
            self.same(all_of(record), now)
        with self.assertRaises(BadSight):
            with record.trial() as same:
                self.change(same)
                same += (Frame("a"), "b")
        self.same(all_of(record), now)

    def test_within_another_one(self):
        record = noted()
        now = all_of(record)
        with record.trial():
            record.back()
            record.note(Frame("e", "a"), "a")
            within = all_of(record)
            with record.trial() as inner:
                self.assertIs(inner, record)
                self.change(record)
                with self.assertRaises(Begun):
                    with record.trial():
                        record.back()
                        record.watchers = ["a"]
                self.same(len(record), 5)
            self.same(all_of(record), within)
            self.change(record)
        self.same(all_of(record), now)

    def test_tried(self):
        record = noted()
        now = all_of(record)
        seen = []

        def work(same):
            seen.append(same)
            self.change(same)
            return [len(same)]
        self.same([record.tried(work), record.tried(work=work), record.tried(lambda same: same.tried(work))], [[5]] * 3)
        self.assertTrue(all(one is record for one in seen))
        self.same([record.tried(lambda same: None), all_of(record)], [None, now])

        def fail(same):
            self.change(same)
            raise Unlike()
        self.raises(Unlike(), record.tried, fail)
        self.same(all_of(record), now)


class Fitting(Case):

    def test_faults(self):
        found = {}
        for seed in range(60):
            watchers = [(), ("a",), ("b", "d"), ("a", "c", "e"), letters(5)][seed % 5]
            trees = list(all_trees(letters(5)))
            frames = drawn_frames(seed, letters(5), 8)
            record = Record.seen_of(trees[seed * 7 % 26], History.of(frames), watchers)
            for tree in trees:
                notes = [record[k] for k in range(len(record))]
                fault = plain_fault(tree, watchers, notes)
                self.same([record.fault(tree), record.fault(tree=tree)], [fault, fault])
                self.same([record.fits(tree), record.fits(tree=tree)], [fault is None] * 2)
                found[fault] = True
        self.assertGreater(len(found), 15)

    def test_notes_that_no_tree_can_have(self):
        record = Record(letters(4))
        record.note(Frame("a", "b"), "c")
        self.same([record.fault(tree) for tree in all_trees(letters(4))], [(0, "b")] * 4)
        record.back()
        record.note(Frame("a", "b"), "b", "c", "d")
        record.note(Frame("b"), "a", "d")
        self.same([record.fault(Tree.star(*letters(4))), record.fits(TREE.only(letters(4)))], [(1, "c"), False])
        record.back()
        record.note(Frame("b", "a"), "a", "c")
        self.same(record.fault(Tree.star(*letters(4))), (1, "c"))

    def test_the_least_watcher(self):
        record = Record(letters(5), ["b", "c", "e"])
        record.note(Frame("a", "d"))
        self.same(record.fault(TREE), (0, "b"))
        record.back()
        record.note(Frame("a", "d"), "b")
        self.same(record.fault(TREE), (0, "c"))
        record.back()
        record.note(Frame("a", "d"), "b", "c")
        self.same(record.fault(TREE), (0, "e"))
        record.back()
        record.note(Frame("a", "d"), "e", "b", "c")
        self.same(record.fault(TREE), None)

    def test_who_does_not_watch(self):
        for seed in range(20):
            tree = list(all_trees(letters(5)))[seed]
            frames = drawn_frames(seed, letters(5), 15)
            record = Record(letters(5), [])
            for frame in frames:
                record.note(frame)
            self.same([record.fault(tree), len(list(record.fitting()))], [None, 26])

    def test_wrong_trees(self):
        record = noted()
        for value in [*any_values(), "a b c d e", Tree.star(*letters(4)), Tree.star(*letters(6)), Table.of_tree(TREE),
                      TREE.renamed({"a": "a", "b": "b", "c": "c", "d": "d", "e": "f"}), record, Network(TREE)]:
            self.raises(Unlike(), record.fault, value)
            self.raises(Unlike(), record.fits, value)

    def test_fitting(self):
        for seed in range(30):
            many = 1 + seed % 6
            trees = list(all_trees(letters(many)))
            watchers = None if seed % 2 else letters(many)[1:]
            row = History.of(drawn_frames(seed, letters(many), 10))
            record = Record.seen_of(trees[seed * 5 % len(trees)], row, watchers)
            notes = [record[k] for k in range(len(record))]
            wanted = [tree for tree in trees if plain_fault(tree, record.watchers, notes) is None]
            self.same(list(record.fitting()), wanted)
            self.assertIn(trees[seed * 5 % len(trees)], wanted)
            self.same(all([record.fits(tree) for tree in wanted]), True)

    def test_fitting_is_as_at_the_first_request(self):
        record = Record(letters(4))
        made = record.fitting()
        self.assertTrue(hasattr(made, "send"))
        record.note(Frame("b", "c"), "a", "c", "d")
        record.note(Frame("c", "b"), "b")
        record.note(Frame("a", "c"), "c")
        wanted = list(record.fitting())
        found = [next(made)]
        record.note(Frame("a", "b"), "c")
        self.same([list(record.fitting()), found + list(made)], [[], wanted])
        self.same([str(tree) for tree in wanted], ["a b c d", "a (b d) c", "a b (c d)"])

    def test_fitting_changes_nothing(self):
        record = noted()
        now = all_of(record)
        for _ in record.fitting():
            self.same(record, noted())
        self.same(all_of(record), now)


class SeenOf(Case):

    def test_what_the_watchers_see(self):
        for seed in range(40):
            many = 1 + seed % 6
            tree = list(all_trees(letters(many)))[-1 - seed % 3 if many > 3 else -1]
            row = History.of(drawn_frames(seed, tree.hosts, seed % 21))
            for watchers in (None, (), tree.hosts[:2], list(tree.hosts[::-1])):
                record = Record.seen_of(tree, row, watchers)
                watching = tree.hosts if watchers is None else tuple(sorted(watchers))
                self.same([type(record), record.hosts, record.watchers, record.history],
                          [Record, tree.hosts, watching, row])
                for at, sight in enumerate(Network(tree).play(row)):
                    self.same(record[at], (row[at], tuple([host for host in sight if host in watching])))
                self.same(record.fits(tree), True)
        self.same(Record.seen_of(tree=TREE, history=ROW, watchers=["a"]), Record.seen_of(TREE, ROW, ["a"]))

    def test_errors(self):
        self.raises(TooMany("hosts", 6), Record.seen_of, Tree.star(*letters(7)), History(), "x")
        for value in ["a", ["x"], ("a", "a"), 0, {}, ["a", None]]:
            self.raises(BadSight(value), Record.seen_of, TREE, History.read("x *"), value)
        self.raises(NoHost("x"), Record.seen_of, TREE, History.read("a b, x *"), ())
        self.raises(NoHost("z"), Record.seen_of, TREE, History.read("a z, x *"))
        self.raises(NoHost("z"), Record.seen_of, TREE, History.read("z x"))
        row = History.read("a b") * 20
        self.same(len(Record.seen_of(TREE, row)), 20)
        self.raises(TooMany("notes", 20), Record.seen_of, TREE, row + Frame("a"))
        self.raises(TooMany("notes", 20), Record.seen_of, TREE, row + Frame("a") + Frame("x"))
        self.raises(NoHost("x"), Record.seen_of, TREE, row + Frame("x"))


class Bounds(Case):

    def test_six_hosts_and_twenty_notes(self):
        for tree in list(all_trees(letters(6)))[::40]:
            for row in (History.of([Frame("a", "b")] * 20), History.of(drawn_frames(1, tree.hosts, 20))):
                record = self.soon(Record.seen_of, tree, row)
                self.assertIn(tree, self.soon(lambda: list(record.fitting())))
                self.soon(record.fault, tree)


class TheFacts(Case):

    def test_what_fits_by_definition(self):
        # Of the watchers just those that are noted see each frame.
        frames = list(frames_among(letters(4), True))
        for at, (one, other) in enumerate(combinations(frames, 2)):
            record = Record(letters(4), ["b", "d"])
            for frame in (one, other, frames[at * 3 % 16]):
                seen = [host for k, host in enumerate("bd") if (at >> k) % 2 and host != frame.sender]
                record.note(frame, *seen)
            notes = [record[k] for k in range(3)]
            wanted = [tree for tree in all_trees(letters(4)) if plain_fault(tree, ("b", "d"), notes) is None]
            self.same(list(record.fitting()), wanted)

    def test_errors_are_seen_errors(self):
        with self.assertRaises(SeenError):
            Record(letters(7))
