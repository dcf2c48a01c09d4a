import random

from seenframes.errors import BadText, BadWeb, SeenError, TooMany
from seenframes.frames import Frame, History
from seenframes.reader import read_record, read_web
from seenframes.records import Record
from seenframes.texts import record_text, web_text
from seenframes.trees import Tree
from seenframes.webs import Web
from tests.plain_texts import record_parts, texts_otherwise, told, web_parts
from tests.support import Case, any_values, caterpillar_cuts, drawn_cuts, drawn_frames, letters
from tests.test_webs import WEB, drawn_web

WORDS = ["web", "link", "host", "record", "watch", "note", "saw", "none", "trees", "a", "b", "c", "x", "0", "1", "2", "5",
         "07", "99", "100", "-1", "+1", "*", "-", ";", "", "A", "abcdefghi", "a,", "1_0", "two words"]


def drawn_record(seed, hosts=None, most=6):
    """A record of what some hosts see on a tree, drawn by lot."""
    dice = random.Random(seed)
    hosts = hosts or letters(dice.randint(1, 6))
    drawn = Tree(*drawn_cuts(seed, len(hosts)))
    tree = drawn.renamed(dict(zip(drawn.hosts, hosts)))
    watchers = [host for host in hosts if dice.random() < 0.6]
    return Record.seen_of(tree, History.of(drawn_frames(seed, tree.hosts, dice.randint(0, most))), watchers)


def web_made(links, places):
    return Web(links, places)


def record_made(hosts, watchers, notes):
    record = Record(hosts, watchers)
    for sender, target, seen in notes:
        record.note(Frame(sender, target), *seen)
    return record


class Webs(Case):

    def test_texts(self):
        self.same(web_text(WEB), "web\nlink 3 4\nlink 3 7\nlink 4 5\nlink 4 6\nlink 5 9\nhost a 7\nhost b 3\nhost c 5\nhost d 9")
        self.same(web_text(web=Web([], {"a": 0})), "web\nhost a 0")
        self.same(web_text(Web([(99, 0)], {"link": 99, "host": 0, "web": 0})),
                  "web\nlink 0 99\nhost host 0\nhost link 99\nhost web 0")
        self.same(web_text(Web([(10, 9), (9, 2)], {"b": 10, "a": 2})), "web\nlink 2 9\nlink 9 10\nhost a 2\nhost b 10")

    def test_read(self):
        for web in [WEB, Web([], {"a": 0}), Web([(99, 0)], {"link": 99, "host": 0, "web": 0})] + [
                Web(*drawn_web(seed)) for seed in range(60)]:
            self.assertTrue(read_web(web_text(web)) == web)
            self.assertIs(type(read_web(text=web_text(web))), Web)
            self.same(web_text(read_web(web_text(web))), web_text(web))

    def test_no_texts(self):
        for value in any_values():
            wanted = told(web_parts, value)
            self.assertIsInstance(wanted, BadText)
            self.raises(wanted, read_web, value)
            if not isinstance(value, str):
                self.same_error(wanted, BadText(0, 0))

    def test_one_thing_otherwise(self):
        texts = [web_text(WEB), "web\nhost a 0", web_text(Web([(99, 0)], {"link": 99, "host": 0, "web": 0})),
                 "web\nlink 0 10\nlink 9 10\nlink 10 11\nhost a 9\nhost ab 10\nhost b 10"]
        many = {"read": 0, "text": 0, "web": 0}
        for text in texts:
            for other in texts_otherwise(text, WORDS):
                wanted = told(web_parts, other)
                if isinstance(wanted, BadText):
                    self.raises(wanted, read_web, other)
                    many["text"] += 1
                    continue
                try:
                    web = web_made(*wanted)
                except SeenError as error:
                    self.raises(error, read_web, other)
                    many["web"] += 1
                else:
                    self.assertTrue(read_web(other) == web)
                    self.same(web_text(web), other)
                    many["read"] += 1
        self.assertGreater(min(many.values()), 20)

    def test_first_wrong_words(self):
        for text, line, word in [
                ("", 0, 0), ("web", 1, 0), ("web ", 0, 1), ("web\n", 1, 0), ("web\nlink", 1, 1), ("web\nlink 0", 1, 2),
                ("web\nlink 0 1", 2, 0), ("web\nlink 1 0\nx", 1, 2), ("web\nlink 0 0", 1, 2), ("web\nlink 0 1 2", 1, 3),
                ("web\nlink 0 100", 1, 2), ("web\nlink 00 1", 1, 1), ("web\nlink 5 6\nlink 0 99", 2, 2),
                ("web\nlink 5 6\nlink 5 6", 2, 2), ("web\nlink 5 7\nlink 5 6", 2, 2), ("web\nlink 5 7\nlink 4", 2, 2),
                ("web\nhost a 0\nlink 0 1", 2, 0), ("web\nhost", 1, 1), ("web\nhost a", 1, 2), ("web\nhost a 0 0", 1, 3),
                ("web\nhost b 0\nhost a 0", 2, 1), ("web\nhost a 0\nhost a 0", 2, 1), ("web\nhost A 0", 1, 1),
                ("web\nhost a x", 1, 2), ("web\nhost a 0\n", 2, 0), ("web\n\nhost a 0", 1, 0), (" web\nhost a 0", 0, 0),
                ("web\nhost  a 0", 1, 1), ("web\nhost a 0 ", 1, 3), ("web\nhost b 1\nhost a", 2, 1)]:
            self.raises(BadText(line, word), read_web, text)

    def test_errors_of_the_web(self):
        forty_one = "\n".join(["web"] + [f"host {name} 0" for name in sorted(letters(41))])
        self.raises(TooMany("hosts", 40), read_web, forty_one)
        self.raises(BadText(41, 2), read_web, forty_one[:-2])
        self.raises(TooMany("hosts", 40), read_web, forty_one.replace("web\n", "web\nlink 5 6\n"))
        self.raises(BadWeb("ring"), read_web, "web\nlink 0 1\nlink 0 2\nlink 1 2\nlink 5 6\nhost a 0")
        self.raises(BadWeb("apart"), read_web, "web\nlink 0 1\nhost a 2")
        self.raises(BadText(4, 2), read_web, "web\nlink 0 1\nlink 0 2\nlink 1 2\nlink 1 2\nhost a 0")
        self.raises(BadText(5, 0), read_web, "web\nlink 0 1\nlink 0 2\nlink 1 2\nhost a 0\nlink 3 4")

    def test_hundred_switches_and_forty_hosts(self):
        names = sorted(letters(40))
        for seed in range(4):
            dice = random.Random(seed)
            order = dice.sample(range(100), 100)
            links = [(order[at], order[dice.randrange(max(0, at - 3), at)]) for at in range(1, 100)]
            web = Web(links, {name: dice.randrange(100) for name in names})
            text = self.soon(web_text, web)
            self.assertTrue(self.soon(read_web, text) == web)
            self.raises(BadText(139, 2), read_web, text[:text.rindex(" ")])


class Records(Case):

    def test_texts(self):
        record = Record(["b", "a", "c"], ["c", "a"])
        self.same(record_text(record), "record a b c\nwatch a c")
        record.note(Frame("a", "b"))
        record.note(Frame("b"), "c", "a")
        self.same(record_text(record=record), "record a b c\nwatch a c\nnote a b\nnote b * saw a c")
        self.same(record_text(Record(["a"], [])), "record a\nwatch")
        named = Record(["watch", "record", "saw", "note"])
        named.note(Frame("saw", "note"), "watch", "record")
        self.same(record_text(named), "record note record saw watch\nwatch note record saw watch\n"
                                      "note saw note saw record watch")
        self.assertTrue(read_record(record_text(named)) == named)

    def test_read(self):
        for seed in range(80):
            record = drawn_record(seed)
            text = record_text(record)
            found = read_record(text)
            self.assertIs(type(found), Record)
            self.assertTrue(found == record and read_record(text=text) == record)
            self.same(record_text(found), text)

    def test_no_texts(self):
        for value in any_values():
            wanted = told(record_parts, value)
            self.assertIsInstance(wanted, BadText)
            self.raises(wanted, read_record, value)

    def test_one_thing_otherwise(self):
        texts = ["record a", "record a\nwatch", "record a b c\nwatch a c\nnote a b\nnote b * saw a c\nnote c a saw a",
                 "record note saw watch\nwatch note saw watch\nnote saw note saw note watch\nnote note *"]
        many = {"read": 0, "text": 0}
        for text in texts:
            for other in texts_otherwise(text, WORDS + ["note a b saw b", "watch b"]):
                wanted = told(record_parts, other)
                if isinstance(wanted, BadText):
                    self.raises(wanted, read_record, other)
                    many["text"] += 1
                else:
                    record = record_made(*wanted)
                    self.assertTrue(read_record(other) == record)
                    self.same(record_text(record), other)
                    many["read"] += 1
        self.assertGreater(min(many.values()), 20)

    def test_first_wrong_words(self):
        for text, line, word in [
                ("", 0, 0), ("record", 0, 1), ("record ", 0, 1), ("record a", 1, 0), ("record a\nwatch b", 1, 1),
                ("record b a\nwatch", 0, 2), ("record a a\nwatch", 0, 2), ("record a b\nwatch b a", 1, 2),
                ("record a b\nwatch a a", 1, 2), ("record a b\nnote a b", 1, 0), ("record a b\nwatch\nnote", 2, 1),
                ("record a b\nwatch\nnote a", 2, 2), ("record a b\nwatch\nnote a a", 2, 2),
                ("record a b\nwatch\nnote a x", 2, 2), ("record a b\nwatch\nnote x a", 2, 1),
                ("record a b\nwatch\nnote * a", 2, 1), ("record a b\nwatch a\nnote b a a", 2, 3),
                ("record a b\nwatch a\nnote b a saw", 2, 4), ("record a b\nwatch a\nnote b a saw b", 2, 4),
                ("record a b\nwatch a b\nnote b a saw b", 2, 4), ("record a b\nwatch a b\nnote b * saw a a", 2, 5),
                ("record a b c\nwatch a c\nnote b * saw c a", 2, 5), ("record a b\nwatch a\n", 2, 0),
                ("record a b\nwatch a\n\nnote a b", 2, 0), ("record a b\nwatch ", 1, 1), ("record a\nwatch\nwatch", 2, 0),
                ("record a b\nwatch a\nnote b a saw a ", 2, 5), ("record a b\nwatch x A", 1, 1)]:
            self.raises(BadText(line, word), read_record, text)

    def test_errors_of_the_record(self):
        notes = "\nnote a b saw b" * 20
        twenty = read_record("record a b\nwatch a b" + notes)
        self.same([len(twenty), record_text(twenty)], [20, "record a b\nwatch a b" + notes])
        self.raises(TooMany("notes", 20), read_record, "record a b\nwatch a b" + notes + "\nnote a b")
        self.raises(BadText(22, 2), read_record, "record a b\nwatch a b" + notes + "\nnote a")
        self.raises(TooMany("hosts", 6), read_record, "record a b c d e f g\nwatch")
        self.raises(TooMany("hosts", 6), read_record, "record a b c d e f g\nwatch" + "\nnote a b" * 21)
        self.raises(BadText(1, 1), read_record, "record a b c d e f g\nwatch x")
        self.same(read_record("record a b c d e f\nwatch").hosts, tuple("abcdef"))

    def test_six_hosts_and_twenty_notes(self):
        tree = Tree(*caterpillar_cuts(6))
        record = Record.seen_of(tree, History.of(drawn_frames(1, tree.hosts, 20)))
        text = self.soon(record_text, record)
        self.assertTrue(self.soon(read_record, text) == record)

    def test_the_record_may_change_behind_it(self):
        record = drawn_record(5)
        text = record_text(record)
        found = read_record(text)
        found.note(Frame(found.hosts[0]))
        self.same(record_text(record), text)
        self.assertTrue(read_record(text) == record)
