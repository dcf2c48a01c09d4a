"""The names, the places and the parameters of the interface."""

import importlib
import inspect
import unittest

FUNCTIONS = {
    "names": ["is_name(value)", "hosts_of(values, most=40)", "fours_of(hosts)", "fives_of(hosts)"],
    "frames": ["frames_among(hosts, with_all=False)"],
    "cuts": ["first_crossing(cuts)"],
    "partings": ["answers_of(four)"],
}
# A plain name is an attribute or a property, the rest are the constructor and the methods.
CLASSES = {
    ("frames", "Frame"): [
        "__init__(self, sender, target=None)", "__lt__(self, other)", "__le__(self, other)", "__gt__(self, other)",
        "__ge__(self, other)", "__eq__(self, other)", "__str__(self)", "read(cls, text)"],
    ("frames", "History"): [
        "__init__(self, *frames)", "of(cls, frames)", "read(cls, text)", "__len__(self)", "__getitem__(self, at)",
        "__contains__(self, x)", "__iter__(self)", "__add__(self, other)", "__mul__(self, other)",
        "__eq__(self, other)", "without(self, k)", "swapped(self, k)", "upto(self, k)", "__str__(self)"],
    ("cuts", "Cut"): [
        "__init__(self, one, other)", "makes(self, parting)", "crosses(self, other)", "only(self, hosts)",
        "__lt__(self, other)", "__le__(self, other)", "__gt__(self, other)", "__ge__(self, other)",
        "__eq__(self, other)", "__str__(self)", "read(cls, text)"],
    ("partings", "Parting"): [
        "__init__(self, one, other)", "mate(self, host)", "__lt__(self, other)", "__le__(self, other)",
        "__gt__(self, other)", "__ge__(self, other)", "__eq__(self, other)", "__str__(self)", "read(cls, text)"],
}
CLASS_METHODS = {"read", "of"}
SHOWN = {
    "Frame": ["sender", "target", "is_to_all"], "History": ["frames", "hosts", "MOST"],
    "Cut": ["near", "far", "hosts"], "Parting": ["four", "pairs"],
}


def module(name):
    return importlib.import_module("seenframes." + name)


def made(name):
    """An object of each class."""
    return {
        "Frame": lambda: module("frames").Frame("a"), "History": lambda: module("frames").History(),
        "Cut": lambda: module("cuts").Cut(["a", "b"], ["c", "d"]),
        "Parting": lambda: module("partings").Parting(["a", "b"], ["c", "d"]),
    }[name]()


class Interface(unittest.TestCase):

    def test_functions(self):
        for file, told in FUNCTIONS.items():
            for text in told:
                name = text.partition("(")[0]
                found = vars(module(file))[name]
                self.assertEqual(found.__module__, "seenframes." + file)
                self.assertEqual(name + str(inspect.signature(found)), text)

    def test_classes(self):
        for (file, name), told in CLASSES.items():
            found = vars(module(file))[name]
            self.assertEqual((found.__module__, found.__bases__), ("seenframes." + file, (object,)))
            for text in told:
                method = text.partition("(")[0]
                kept = vars(found)[method]
                self.assertEqual(isinstance(kept, classmethod), method in CLASS_METHODS, text)
                plain = kept.__func__ if isinstance(kept, classmethod) else kept
                self.assertEqual(method + str(inspect.signature(plain)), text)

    def test_attributes_and_properties(self):
        for name, told in SHOWN.items():
            thing = made(name)
            for shown in told:
                self.assertTrue(hasattr(thing, shown), f"{name}: {shown}")
                self.assertFalse(inspect.ismethod(getattr(thing, shown)), f"{name}: {shown}")

    def test_class_values(self):
        self.assertEqual(vars(module("frames").History)["MOST"], 60)
