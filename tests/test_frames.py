from itertools import product

from seenframes.errors import BadFrame, BadHistory, BadIndex, BadText, TooMany
from seenframes.frames import Frame, History, frames_among
from tests.support import Case, any_values, letters, no_integers, same

AB, BA, TO_ALL, CB = Frame("a", "b"), Frame("b", "a"), Frame("a"), Frame("c", "b")


class Frames(Case):

    def test_attributes(self):
        self.same([AB.sender, AB.target, AB.is_to_all], ["a", "b", False])
        self.same([TO_ALL.sender, TO_ALL.target, TO_ALL.is_to_all], ["a", None, True])
        frame = Frame(target="host", sender="abcdefgh")
        self.same([frame.sender, frame.target], ["abcdefgh", "host"])
        self.same(Frame("a", None), TO_ALL)

    def test_wrong_sender(self):
        for value in any_values():
            if value != "zz":
                self.raises(BadFrame("sender"), Frame, value)
                self.raises(BadFrame("sender"), Frame, value, "a")
                self.raises(BadFrame("sender"), Frame, value, value)

    def test_wrong_target(self):
        for value in any_values():
            if value != "zz" and value is not None:
                self.raises(BadFrame("target"), Frame, "a", value)
        self.raises(BadFrame("target"), Frame, "a", "a")
        self.raises(BadFrame("target"), Frame, "zz", "zz")
        self.raises(BadFrame("target"), Frame, "a", target="")

    def test_order(self):
        row = [Frame("a"), Frame("a", "b"), Frame("a", "c"), Frame("aa"), Frame("aa", "a"), Frame("b"), Frame("b", "a")]
        for (i, one), (k, other) in product(enumerate(row), enumerate(row)):
            found = [one < other, one <= other, one > other, one >= other, one == other, one != other]
            self.same(found, [i < k, i <= k, i > k, i >= k, i == k, i != k])
        self.no_order(AB)

    def test_equality(self):
        self.same(Frame("a", "b") == AB, True)
        self.same(Frame("a", "b") != AB, False)
        for value in [*any_values(), "a b", ("a", "b"), ["a", "b"], History(AB)]:
            self.same([AB == value, value == AB, AB != value], [False, False, True])

    def test_text(self):
        self.same([str(AB), str(TO_ALL), str(Frame("host", "abcdefgh"))], ["a b", "a *", "host abcdefgh"])

    def test_read_back(self):
        for frame in frames_among(("a", "abcdefgh", "zz"), True):
            self.same(Frame.read(str(frame)), frame)
        self.same(Frame.read(text="a *"), TO_ALL)

    def test_read_errors(self):
        wrong = {
            0: ["", " ", "  ", " a b", "* a", "A b", "a, b", "a\nb", "\na b", "a1 b", "1", "abcdefghi b", "-", "a\n b"],
            1: ["a", "a ", "a  ", "a a", "a 1", "a B", "a b,", "a b\n", "a -", "a **", "a *,", "zz zz b", "a 1 c",
                "a  b", "a abcdefghi", "a \nb", "a a a"],
            2: ["a b ", "a b c", "a * ", "a * b", "a b  ", "a b c d", "a b \n", "a b ,"],
        }
        for word, texts in wrong.items():
            for text in texts:
                self.raises(BadText(0, word), Frame.read, text)
        for value in any_values():
            if not isinstance(value, str):
                self.raises(BadText(0, 0), Frame.read, value)
        self.raises(BadText(0, 0), Frame.read, AB)
        self.raises(BadText(0, 0), Frame.read, ["a", "b"])


class FramesAmong(Case):

    def test_frames(self):
        self.same([str(frame) for frame in frames_among(("a", "b", "c"))],
                  ["a b", "a c", "b a", "b c", "c a", "c b"])
        self.same([str(frame) for frame in frames_among(("a", "b", "c"), with_all=True)],
                  ["a *", "a b", "a c", "b *", "b a", "b c", "c *", "c a", "c b"])
        self.same([list(frames_among(("a",))), list(frames_among(("a",), True))], [[], [Frame("a")]])
        self.same([list(frames_among(())), list(frames_among((), True))], [[], []])

    def test_ascending(self):
        for with_all in (False, True):
            row = list(frames_among(hosts=letters(40), with_all=with_all))
            self.assertEqual(len(row), 40 * (39 + with_all))
            self.assertTrue(all(one < other for one, other in zip(row, row[1:])))

    def test_it_is_a_generator(self):
        made = frames_among(("a", "b"), False)
        self.assertTrue(hasattr(made, "send"))
        self.same(next(made), AB)


class MadeHistories(Case):

    def test_made(self):
        row = History(AB, BA, AB)
        self.same([row.frames, row.hosts, len(row)], [(AB, BA, AB), ("a", "b"), 3])
        self.same([History().frames, History().hosts, len(History())], [(), (), 0])

    def test_named_hosts(self):
        self.same(History(Frame("d"), Frame("c", "b")).hosts, ("b", "c", "d"))
        self.same(History(Frame("b", "aa"), Frame("b", "c")).hosts, ("aa", "b", "c"))

    def test_wrong_frames(self):
        for value in any_values():
            if not isinstance(value, Frame):
                self.raises(BadHistory(0), History, value)
                self.raises(BadHistory(1), History, AB, value, value)
        self.raises(BadHistory(0), History, [AB])
        self.raises(BadHistory(0), History, (AB,))
        self.raises(BadHistory(2), History, AB, AB, History(AB))

    def test_most(self):
        self.same(History.MOST, 60)
        self.same(len(History(*[AB] * 60)), 60)
        self.raises(TooMany("frames", 60), History, *[AB] * 61)
        self.raises(BadHistory(61), History, *[AB] * 61, None)
        self.raises(BadHistory(0), History, None, *[AB] * 61)

    def test_of(self):
        self.same(History.of([AB, BA]), History(AB, BA))
        self.same(History.of(frames=(AB, BA)), History(AB, BA))
        self.same([History.of([]), History.of(())], [History(), History()])
        for value in any_values():
            if not isinstance(value, (list, tuple)):
                self.raises(BadHistory(None), History.of, value)
            elif value:
                self.raises(BadHistory(0), History.of, value)
        self.raises(BadHistory(None), History.of, {AB.sender: AB})
        self.raises(BadHistory(1), History.of, [AB, "a b"])
        self.raises(TooMany("frames", 60), History.of, [AB] * 61)
        self.same(len(History.of([AB] * 60)), 60)

    def test_arguments_stay(self):
        frames = [AB, BA]
        row = History.of(frames)
        frames.append(CB)
        frames[0] = CB
        self.same([row.frames, row.hosts], [(AB, BA), ("a", "b")])


class HistoryItems(Case):

    def test_index(self):
        row = History(AB, BA, TO_ALL)
        self.same([row[0], row[1], row[2]], [AB, BA, TO_ALL])
        for value in [3, 4, -1, -3, 10 ** 59, *no_integers()]:
            self.raises(BadIndex(value), lambda: row[value])
        self.raises(BadIndex(0), lambda: History()[0])

    def test_contains(self):
        row = History(AB, BA)
        self.same([AB in row, Frame("b", "a") in row, TO_ALL in row, AB not in row], [True, True, False, False])
        for value in [*any_values(), "a b", ("a", "b"), row, [AB]]:
            self.same(value in row, False)
        self.same(AB in History(), False)

    def test_iteration(self):
        row = History(AB, BA, AB)
        self.same([frame for frame in row], [AB, BA, AB])
        self.same([list(row), tuple(row), list(History())], [[AB, BA, AB], (AB, BA, AB), []])

    def test_equality(self):
        self.same(History(AB, BA) == History.of([AB, BA]), True)
        self.same([History(AB) == History(BA), History(AB, BA) == History(BA, AB)], [False, False])
        self.same([History(AB) != History(AB), History(AB) != History(AB, AB)], [False, True])
        for value in any_values():
            self.same([History(AB) == value, value == History(AB)], [False, False])
        self.same([History() == (), History(AB) == (AB,), History(AB) == [AB]], [False] * 3)


class HistorySums(Case):

    def test_sums(self):
        row = History(AB, BA)
        self.same(row + History(CB, AB), History(AB, BA, CB, AB))
        self.same(row + CB, History(AB, BA, CB))
        self.same([row + History(), History() + row, History() + History()], [row, row, History()])
        self.same(row, History(AB, BA))

    def test_products(self):
        row = History(AB, BA)
        self.same([row * 0, row * 1, row * 2], [History(), row, History(AB, BA, AB, BA)])
        self.same([History() * 0, History() * 7, History() * 10 ** 59], [History()] * 3)

    def test_other_kinds(self):
        row = History(AB)
        for value in (None, "a b", [AB], (AB,), 1):
            with self.assertRaises(TypeError):
                row + value
        for value in (None, "2", -1, True, row, AB):
            with self.assertRaises(TypeError):
                row * value

    def test_too_many(self):
        sixty = History(AB) * 60
        self.same(len(sixty), 60)
        self.same(len(History(AB) * 59 + BA), 60)
        self.raises(TooMany("frames", 60), lambda: sixty + AB)
        self.raises(TooMany("frames", 60), lambda: sixty + History(AB))
        self.same(sixty + History(), sixty)
        self.raises(TooMany("frames", 60), lambda: History(AB) * 61)
        self.raises(TooMany("frames", 60), lambda: History(AB, BA) * 31)
        self.raises(TooMany("frames", 60), lambda: History(AB) * 10 ** 59)
        self.same(len(History(AB, BA) * 30), 60)

    def test_in_place(self):
        row = first = History(AB)
        row += BA
        self.same([row, first], [History(AB, BA), History(AB)])
        row += History(CB)
        self.same([row, first], [History(AB, BA, CB), History(AB)])
        twice = row
        twice *= 2
        self.same([len(twice), len(row)], [6, 3])
        once = row
        once *= 1
        self.assertIsNot(once, row)
        with self.assertRaises(TooMany):
            row += History(AB) * 60
        self.same(row, History(AB, BA, CB))


class HistoryParts(Case):

    def setUp(self):
        self.row = History(AB, BA, TO_ALL, CB)

    def test_without(self):
        self.same([self.row.without(0), self.row.without(3)], [History(BA, TO_ALL, CB), History(AB, BA, TO_ALL)])
        self.same([self.row.without(k=1), History(AB).without(0)], [History(AB, TO_ALL, CB), History()])
        for value in [-1, 4, 5, -4, 10 ** 59, *no_integers()]:
            self.raises(BadIndex(value), self.row.without, value)
        self.raises(BadIndex(0), History().without, 0)

    def test_swapped(self):
        self.same([self.row.swapped(0), self.row.swapped(2)],
                  [History(BA, AB, TO_ALL, CB), History(AB, BA, CB, TO_ALL)])
        self.same(self.row.swapped(k=1), History(AB, TO_ALL, BA, CB))
        for value in [-1, 3, 4, -2, 10 ** 59, *no_integers()]:
            self.raises(BadIndex(value), self.row.swapped, value)
        self.raises(BadIndex(0), History().swapped, 0)
        self.raises(BadIndex(0), History(AB).swapped, 0)

    def test_upto(self):
        self.same([self.row.upto(0), self.row.upto(2), self.row.upto(k=4)], [History(), History(AB, BA), self.row])
        for value in [-1, 5, -4, 10 ** 59, *no_integers()]:
            self.raises(BadIndex(value), self.row.upto, value)
        self.same(History().upto(0), History())
        self.raises(BadIndex(1), History().upto, 1)

    def test_the_history_stays(self):
        self.row.without(0)
        self.row.swapped(0)
        self.row.upto(1)
        self.same(self.row, History(AB, BA, TO_ALL, CB))


class HistoryTexts(Case):

    def test_text(self):
        self.same(str(History(AB, TO_ALL, CB)), "a b, a *, c b")
        self.same([str(History()), str(History(TO_ALL))], ["-", "a *"])

    def test_read_back(self):
        for row in [History(), History(AB), History(AB, TO_ALL, CB), History(TO_ALL) * 60]:
            self.same(History.read(str(row)), row)
        self.same(History.read(text="a b"), History(AB))

    def test_read_errors(self):
        wrong = {
            0: ["", " ", "  ", "--", "-,", "-\n", " -", "*", "a, b", "1", ",", "A b", " a b", "a\nb c", "* a"],
            1: ["- ", "- a", "- -", "- a b", "a", "a ", "a a", "a a,", "a -", "a b,, c d", "a b,c d", "a **",
                "a ,", "a ,*", "a b;", "a 1 c d", "a b\n", "a b\n, c d"],
            2: ["a b ", "a b c", "a b c d", "a b,", "a *,", "a b c,", "a b, ", "a b, 1", "a b, -", "a b, *",
                "a b, A b", "a b, b, c", "a * c *", "a b,  c d"],
            3: ["a b, c", "a b, c ", "a b, c c", "a b, c -", "a b, c 1", "a b, c c,"],
            4: ["a b, c d e f", "a b, c d,", "a b, c *,", "a b, c d ", "a b, a *, "],
        }
        for word, texts in wrong.items():
            for text in texts:
                self.raises(BadText(0, word), History.read, text)
        for value in any_values():
            if not isinstance(value, str):
                self.raises(BadText(0, 0), History.read, value)
        self.raises(BadText(0, 0), History.read, History(AB))
        self.raises(BadText(0, 0), History.read, ["a b"])

    def test_read_too_many(self):
        self.raises(TooMany("frames", 60), History.read, ", ".join(["a b"] * 61))
        self.raises(TooMany("frames", 60), History.read, ", ".join(["a *"] * 900))
        self.raises(BadText(0, 122), History.read, ", ".join(["a b"] * 61) + ",")
        self.raises(BadText(0, 123), History.read, ", ".join(["a b"] * 61) + ", a")
        self.raises(BadText(0, 1200), History.read, ", ".join(["a b"] * 600) + " ")


class Kinds(Case):

    def test_any_values_are_told_apart(self):
        values = any_values()
        self.assertFalse(same(True, 1) or same([1], (1,)) or same([True], [1]))
        self.assertTrue(all(same(value, value) for value in values))
