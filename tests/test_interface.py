"""The names, the places and the parameters of the interface."""

import importlib
import inspect
import unittest

FUNCTIONS = {
    "names": ["is_name(value)", "hosts_of(values, most=40)", "fours_of(hosts)", "fives_of(hosts)"],
    "frames": ["frames_among(hosts, with_all=False)"],
    "cuts": ["first_crossing(cuts)"],
    "trees": ["all_trees(hosts)", "count_trees(n, cuts=None)"],
    "partings": ["answers_of(four)", "partings_of(tree)"],
    "tables": ["first_misfit(table)"],
    "alikes": ["alike(one, other)", "first_unlike(one, other, history)", "show_unlike(one, other)",
               "shows_unlike(one, other, value)"],
    "sure": ["judge(record, four)", "barren(record)", "shows_finding(record, value)", "shows_barren(record, value)"],
    "clues": ["shows_strikes(clues, value)"],
    "later": ["apart(one, other, history)", "closed(one, other, history)", "shows_apart(one, other, history, value)",
              "shows_closed(one, other, history, value)"],
    "nexts": ["next_frame(record)"],
    "plans": ["least_plan(record)", "shows_plan(record, value)"],
    "everytree": ["left_alike(one, other)", "difference(one, other)", "shows_difference(one, other, value)",
                  "idle(history)", "thinned(history)", "exchangeable(history, k)", "untold(history, four)"],
    "texts": ["web_text(web)", "record_text(record)"],
    "reader": ["read_web(text)", "read_record(text)"],
}
# A plain name is an attribute or a property, the rest are the constructor and the methods.
CLASSES = {
    ("frames", "Frame"): [
        "__init__(self, sender, target=None)", "__lt__(self, other)", "__le__(self, other)", "__gt__(self, other)",
        "__ge__(self, other)", "__eq__(self, other)", "__str__(self)", "read(cls, text)"],
    ("frames", "History"): [
        "__init__(self, *frames)", "of(cls, frames)", "read(cls, text)", "__len__(self)", "__getitem__(self, at)",
        "__contains__(self, x)", "__iter__(self)", "__add__(self, other)", "__mul__(self, other)",
        "__eq__(self, other)", "without(self, k)", "swapped(self, k)", "upto(self, k)", "__str__(self)"],
    ("cuts", "Cut"): [
        "__init__(self, one, other)", "makes(self, parting)", "crosses(self, other)", "only(self, hosts)",
        "__lt__(self, other)", "__le__(self, other)", "__gt__(self, other)", "__ge__(self, other)",
        "__eq__(self, other)", "__str__(self)", "read(cls, text)"],
    ("trees", "Tree"): [
        "__init__(self, hosts, cuts=())", "star(cls, *hosts)", "__len__(self)", "__contains__(self, x)",
        "__call__(self, a, b, c, d)", "__and__(self, other)", "__or__(self, other)", "__xor__(self, other)",
        "__le__(self, other)", "__lt__(self, other)", "__ge__(self, other)", "__gt__(self, other)",
        "__eq__(self, other)", "only(self, hosts)", "renamed(self, names)", "home(self, host)",
        "way(self, one, other)", "__str__(self)", "read(cls, text)"],
    ("webs", "Web"): [
        "__init__(self, links, places)", "of_tree(cls, tree)", "home(self, host)", "__eq__(self, other)",
        "cut_of(self, one, other)", "needless(self)", "without(self, switch)", "lean(self)"],
    ("partings", "Parting"): [
        "__init__(self, one, other)", "mate(self, host)", "__lt__(self, other)", "__le__(self, other)",
        "__gt__(self, other)", "__ge__(self, other)", "__eq__(self, other)", "__str__(self)", "read(cls, text)"],
    ("tables", "Table"): [
        "__init__(self, hosts)", "of_tree(cls, tree)", "__getitem__(self, at)", "__setitem__(self, at, worth)",
        "__call__(self, a, b, c, d)", "__len__(self)", "__contains__(self, x)", "each(self)", "rebuilt(self)",
        "only(self, hosts)", "twin(self)", "__eq__(self, other)", "__le__(self, other)", "__ge__(self, other)",
        "trial(self)", "tried(self, work)"],
    ("players", "Player"): [
        "__len__(self)", "send(self, frame)", "__iadd__(self, other)", "would(self, frame)", "play(self, history)",
        "seers(self, host)", "outlook(self)", "loose(self, host)", "back(self)", "reset(self)", "twin(self)",
        "__eq__(self, other)", "trial(self)", "tried(self, work)"],
    ("networks", "Network"): ["__init__(self, ground)", "knowers(self, host)", "port(self, switch, host)"],
    ("plays", "Play"): ["__init__(self, ground)"],
    ("alikes", "Shown"): ["__init__(self, history, host)", "__eq__(self, other)"],
    ("rounds", "Rounds"): [
        "__init__(self, ground, history)", "outlook(self)", "shown_in(self, k)", "count(self, host, k)",
        "least(self, host, count)"],
    ("notes", "Notes"): [
        "__len__(self)", "__getitem__(self, at)", "note(self, frame, *seen)", "__iadd__(self, other)", "back(self)",
        "twin(self)", "trial(self)", "tried(self, work)", "__eq__(self, other)"],
    ("records", "Record"): [
        "__init__(self, hosts, watchers=None)", "set_watchers(self, watchers)", "fault(self, tree)", "fits(self, tree)",
        "fitting(self)", "seen_of(cls, tree, history, watchers=None)"],
    ("sure", "Finding"): ["__bool__(self)"],
    ("sure", "Sure"): ["__init__(self, four, answer, faults)", "__eq__(self, other)", "__bool__(self)"],
    ("sure", "Open"): ["__init__(self, four, trees)", "__eq__(self, other)", "__bool__(self)"],
    ("clues", "Clues"): [
        "__init__(self, hosts)", "left(self, four)", "is_barred(self)", "told(self)", "rebuilt(self)", "strikes(self)"],
    ("clues", "Strike"): ["__init__(self, four, answer, reason)", "__eq__(self, other)"],
    ("nexts", "Next"): ["__init__(self, frame, worst, groups)", "__eq__(self, other)"],
    ("plans", "Plan"): [],
    ("plans", "Known"): ["__init__(self, trees)", "__eq__(self, other)"],
    ("plans", "Ask"): ["__init__(self, frame, cases)", "__eq__(self, other)"],
    ("everytree", "Difference"): ["__init__(self, tree, frame, host)", "__eq__(self, other)"],
    ("desk", "Desk"): [
        "__init__(self)", "ask(self, line)", "__call__(self, line)", "run(self, *lines)", "twin_network(self)",
        "twin_record(self)", "__len__(self)"],
}
# The properties that stand in the body of their class.
PROPERTIES = {
    ("frames", "Frame"): ["is_to_all"], ("frames", "History"): ["frames"], ("trees", "Tree"): ["links"],
    ("webs", "Web"): ["links", "places", "tree"], ("tables", "Table"): ["is_tree"],
    ("players", "Player"): ["frames", "sights"], ("networks", "Network"): ["web"],
    ("rounds", "Rounds"): ["opening", "later"], ("notes", "Notes"): ["watchers", "history"],
    ("records", "Record"): ["watchers"], ("plans", "Plan"): ["depth"], ("plans", "Known"): ["depth"],
    ("plans", "Ask"): ["depth"], ("desk", "Desk"): ["ground"],
}
BASES = {"Network": "Player", "Play": "Player", "Record": "Notes", "Sure": "Finding", "Open": "Finding",
         "Clues": "Notes", "Known": "Plan", "Ask": "Plan"}
CLASS_METHODS = {"read", "of", "star", "of_tree", "seen_of"}
SHOWN = {
    "Frame": ["sender", "target", "is_to_all"], "History": ["frames", "hosts", "MOST"],
    "Cut": ["near", "far", "hosts"], "Tree": ["hosts", "cuts", "links", "MOST"],
    "Web": ["hosts", "switches", "links", "places", "tree"], "Parting": ["four", "pairs"],
    "Table": ["hosts", "is_tree", "MOST"], "Network": ["hosts", "frames", "sights", "web"],
    "Play": ["hosts", "frames", "sights"], "Shown": ["history", "host"],
    "Rounds": ["opening", "later"], "Record": ["hosts", "watchers", "history", "MOST", "LONGEST"],
    "Sure": ["four", "answer", "faults"], "Open": ["four", "trees"],
    "Clues": ["hosts", "watchers", "history", "MOST", "LONGEST"], "Strike": ["four", "answer", "reason"],
    "Next": ["frame", "worst", "groups"], "Known": ["trees", "depth"], "Ask": ["frame", "cases", "depth"],
    "Difference": ["tree", "frame", "host"], "Desk": ["ground"],
}


def module(name):
    return importlib.import_module("seenframes." + name)


def made(name):
    """An object of each class."""
    tree = module("trees").Tree.star("a", "b")
    return {
        "Frame": lambda: module("frames").Frame("a"), "History": lambda: module("frames").History(),
        "Cut": lambda: module("cuts").Cut(["a", "b"], ["c", "d"]), "Tree": lambda: tree,
        "Web": lambda: module("webs").Web.of_tree(tree),
        "Parting": lambda: module("partings").Parting(["a", "b"], ["c", "d"]),
        "Table": lambda: module("tables").Table.of_tree(tree),
        "Network": lambda: module("networks").Network(tree), "Play": lambda: module("plays").Play(tree),
        "Shown": lambda: module("alikes").Shown(module("frames").History(), "a"),
        "Rounds": lambda: module("rounds").Rounds(tree, module("frames").History()),
        "Record": lambda: module("records").Record(["a"]), "Sure": lambda: module("sure").Sure((), None, ()),
        "Open": lambda: module("sure").Open((), ()), "Clues": lambda: module("clues").Clues(["a"]),
        "Strike": lambda: module("clues").Strike((), None, ()), "Next": lambda: module("nexts").Next(None, 1, ()),
        "Known": lambda: module("plans").Known(()), "Ask": lambda: module("plans").Ask(None, ()),
        "Difference": lambda: module("everytree").Difference(None, None, None), "Desk": lambda: module("desk").Desk(),
    }[name]()


class Interface(unittest.TestCase):

    def test_functions(self):
        for file, told in FUNCTIONS.items():
            for text in told:
                name = text.partition("(")[0]
                found = vars(module(file))[name]
                self.assertEqual(found.__module__, "seenframes." + file)
                self.assertEqual(name + str(inspect.signature(found)), text)

    def test_classes(self):
        for (file, name), told in CLASSES.items():
            found = vars(module(file))[name]
            self.assertEqual(found.__module__, "seenframes." + file)
            self.assertEqual([base.__name__ for base in found.__bases__], [BASES.get(name, "object")])
            for text in told:
                method = text.partition("(")[0]
                kept = vars(found)[method]
                self.assertEqual(isinstance(kept, classmethod), method in CLASS_METHODS, text)
                plain = kept.__func__ if isinstance(kept, classmethod) else kept
                self.assertEqual(method + str(inspect.signature(plain)), text)

    def test_attributes_and_properties(self):
        for name, told in SHOWN.items():
            thing = made(name)
            for shown in told:
                self.assertTrue(hasattr(thing, shown), f"{name}: {shown}")
                self.assertFalse(inspect.ismethod(getattr(thing, shown)), f"{name}: {shown}")

    def test_properties_stand_in_their_classes(self):
        for (file, name), told in PROPERTIES.items():
            for shown in told:
                self.assertIsInstance(vars(vars(module(file))[name])[shown], property, f"{name}: {shown}")

    def test_class_values(self):
        found = [vars(vars(module(file))[name])["MOST"] for file, name in [
            ("frames", "History"), ("trees", "Tree"), ("tables", "Table"), ("records", "Record"),
            ("clues", "Clues")]]
        self.assertEqual(found, [60, 40, 12, 6, 9])
        self.assertEqual(vars(module("records").Record)["LONGEST"], 20)
        self.assertEqual(vars(module("clues").Clues)["LONGEST"], 30)

    def test_watchers_can_be_set(self):
        record = module("records").Record
        self.assertIsNotNone(vars(record)["watchers"].fset)
        self.assertIsNone(vars(module("notes").Notes)["watchers"].fset)
