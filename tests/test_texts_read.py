"""What is read is just what str writes."""

import random

from seenframes.cuts import Cut
from seenframes.errors import BadText
from seenframes.frames import Frame, History, frames_among
from seenframes.partings import Parting, answers_of
from seenframes.trees import Tree, all_trees
from tests.support import Case

HOSTS = ("a", "ab", "b", "c", "d", "e")
SIGNS = "abcde ()|/,*-\nA1"


def edited(dice, text):
    """A text with some signs taken out, put in and exchanged."""
    signs = list(text)
    for _ in range(dice.randint(1, 3)):
        at = dice.randrange(len(signs) + 1)
        choice = dice.randrange(4)
        if choice == 0:
            signs.insert(at, dice.choice(SIGNS))
        elif choice == 1:
            del signs[at:at + 1]
        elif choice == 2:
            signs[at:at + 1] = dice.choice(SIGNS)
        else:
            other = dice.randrange(len(signs) + 1)
            signs = signs[:at] + signs[other:other + 2] + signs[at:]
    return "".join(signs)


class TextsRead(Case):

    def check(self, kind, things, word):
        """Edited texts of some things are read just if str writes them; else the error tells a place."""
        dice = random.Random(7)
        read = 0
        for _ in range(3000):
            text = edited(dice, str(dice.choice(things)))
            try:
                found = kind.read(text)
            except BadText as error:
                self.same(error.line, 0)
                self.assertIn(error.word, word)
            else:
                self.same(str(found), text)
                self.assertIs(type(found), kind)
                read += 1
        self.assertGreater(read, 20)

    def test_frames(self):
        self.check(Frame, list(frames_among(HOSTS, True)), range(3))

    def test_histories(self):
        dice = random.Random(8)
        frames = list(frames_among(HOSTS, True))
        self.check(History, [History.of(dice.sample(frames, many % 4)) for many in range(40)], range(12))

    def test_cuts(self):
        self.check(Cut, [cut for tree in all_trees(HOSTS) for cut in tree.cuts], [0])

    def test_partings(self):
        self.check(Parting, answers_of(HOSTS[:4])[1:] + answers_of(HOSTS[2:])[1:], [0])

    def test_trees(self):
        self.check(Tree, list(all_trees(HOSTS)), [0])
