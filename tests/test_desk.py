import random
import time

from seenframes.alikes import alike
from seenframes.desk import Desk
from seenframes.errors import (
    BadFour, BadNumber, BadSay, BadSight, BadText, BadWeb, NoHost, NothingFits, SeenError, TooMany, Unlike)
from seenframes.frames import Frame, History
from seenframes.networks import Network
from seenframes.nexts import next_frame
from seenframes.plans import least_plan
from seenframes.records import Record
from seenframes.rounds import Rounds
from seenframes.sure import judge
from seenframes.texts import web_text
from seenframes.trees import Tree
from seenframes.webs import Web
from tests.plain_texts import KINDS, line_fault, texts_otherwise
from tests.support import Case, any_values, caterpillar_cuts, drawn_cuts, drawn_frames, letters
from tests.test_webs import WEB, drawn_web

WORDS = ["web", "link", "host", "record", "watch", "note", "saw", "none", "trees", "tree", "a", "b", "h", "x", "0", "1",
         "07", "*", "-", ";", "", "A", "abcdefghi", "a,", "+1", "(", "9" * 41, "9" * 42]
LINES = ["web web ; link 0 1 ; host a 0 ; host b 1 ; host h 1", "tree a b (c h)", "send a b", "send b *", "play -",
         "play a b, b a, c *", "watch a h", "watch -", "note a b saw b h", "note a * saw -", "undo", "show",
         "answer a b c h", "would a b", "seers a", "knowers b", "rounds 12 a a b, b *", "rounds 0 b -", "trees",
         "judge h a b c", "next", "same a b (c h)"]


class Plain:
    """What a desk is to keep, put together from the rest of the package: a ground, a network, a record."""

    def __init__(self, ground=None):
        self.ground = Tree.star("a", "b") if ground is None else ground
        self.network = Network(self.ground)
        self.record = Record(self.ground.hosts) if len(self.ground.hosts) <= 6 else None

    def twin(self):
        twin = Plain(self.ground)
        twin.network = self.network.twin()
        twin.record = None if self.record is None else self.record.twin()
        return twin

    def tree(self):
        return self.ground if isinstance(self.ground, Tree) else self.ground.tree

    def names(self, names):
        return " ".join(names) or "-"

    def answer(self, line):
        """The answer of a line that can stand, and what is kept behind it; None for what it leaves as it was."""
        word, _, rest = line.partition(" ")
        words = rest.split(" ")
        twin = self.twin()
        if word == "web":
            lines = [part.split(" ") for part in rest.split(" ; ")]
            links = [(int(part[1]), int(part[2])) for part in lines if part[0] == "link"]
            return "ok", Plain(Web(links, {part[1]: int(part[2]) for part in lines if part[0] == "host"}))
        if word == "tree":
            return "ok", Plain(Tree.read(rest))
        if word == "send":
            return self.names(twin.network.send(Frame.read(rest))), twin
        if word == "play":
            return ", ".join(self.names(sight) for sight in twin.network.play(History.read(rest))) or "none", twin
        if word in ("watch", "note", "trees", "judge", "next") and self.record is None:
            raise BadSay("record")
        if word == "watch":
            twin.record = Record(self.ground.hosts, () if rest == "-" else tuple(words))
            return "ok", twin
        if word == "note":
            twin.record.note(Frame.read(" ".join(words[:2])), *([] if words[3:] == ["-"] else words[3:]))
            return str(len(list(twin.record.fitting()))), twin
        return self.told(word, rest, words), None

    def told(self, word, rest, words):
        if word == "show":
            return str(self.tree())
        if word == "answer":
            return str(self.tree()(*words)).lower()
        if word == "would":
            return self.names(self.network.would(Frame.read(rest)))
        if word == "seers":
            return self.names(self.network.seers(rest))
        if word == "knowers":
            return self.names(map(str, self.network.knowers(rest)))
        if word == "rounds":
            return str(Rounds(self.ground, History.read(" ".join(words[2:]))).count(words[1], int(words[0])))
        if word == "trees":
            return " ; ".join(map(str, self.record.fitting())) or "none"
        if word == "judge":
            found = judge(self.record, tuple(words))
            return "sure " + str(found.answer).lower() if found else f"open {len(found.trees)}"
        if word == "next":
            found = next_frame(self.record)
            return f"{found.frame} leaves {found.worst}" if found else "none"
        return "yes" if alike(self.ground, Tree.read(rest)) else "no"


class PlainDesk:
    """A desk of such, each state of which is kept."""

    def __init__(self):
        self.states = [Plain()]

    def ask(self, line):
        if line == "undo":
            if len(self.states) == 1:
                return "nothing"
            self.states.pop()
            return "ok"
        answer, state = self.states[-1].answer(line)
        if state is not None:
            self.states.append(state)
        return answer


def drawn_line(dice, hosts):
    """A line that can stand, about these hosts and sometimes others."""
    def name():
        return dice.choice(hosts) if dice.random() < 0.97 else "x"

    def frame():
        one = name()
        other = dice.choice([host for host in [*hosts, "y"] if host != one])
        return f"{one} {'*' if dice.random() < 0.2 else other if other != 'y' or dice.random() < 0.1 else '*'}"

    def names():
        return " ".join(dice.sample(hosts, dice.randint(0, len(hosts)))) or "-"

    def row():
        return ", ".join(frame() for _ in range(dice.randint(0, 4))) or "-"

    def four():
        return " ".join(dice.sample(hosts, 4) if len(hosts) > 3 and dice.random() < 0.9 else [name() for _ in range(4)])

    word = dice.choice(["tree", "web", "send", "send", "send", "play", "watch", "note", "note", "note", "undo", "undo",
                        "show", "answer", "would", "would", "seers", "knowers", "rounds", "trees", "judge", "next",
                        "same"])
    if word in ("tree", "web") and dice.random() < 0.6:
        word = "send"
    rest = {
        "tree": lambda: str(Tree(*drawn_cuts(dice.random(), dice.choice([4, 4, 4, 5, 7])))),
        "same": lambda: str(Tree(*drawn_cuts(dice.random(), len(hosts)))),
        "web": lambda: web_text(Web(*drawn_web(dice.randrange(99)))).replace("\n", " ; "),
        "send": frame, "play": row, "watch": names, "note": lambda: f"{frame()} saw {names()}", "answer": four,
        "would": frame, "seers": name, "knowers": name, "judge": four,
        "rounds": lambda: f"{dice.choice([0, 1, 7, 10 ** 40, 10 ** 40 + 1])} {name()} {row()}"}.get(word)
    return f"{word} {rest()}" if rest else word


def shown(desk):
    """What is kept by a desk: its ground, its network, its record and how many lines can be taken back."""
    return [desk.ground, desk.twin_network(), desk.twin_record(), len(desk)]


class Sessions(Case):

    def same_desk(self, desk, plain):
        now = plain.states[-1]
        self.assertTrue(desk.ground == now.ground)
        self.assertTrue(desk.twin_network() == now.network)
        self.assertTrue(desk.twin_record() == now.record)
        self.same(len(desk), len(plain.states) - 1)

    def test_beside_the_rest_of_the_package(self):
        words, errors = set(), set()
        for seed in range(45):
            dice = random.Random(seed)
            desk, plain = Desk(), PlainDesk()
            for _ in range(45):
                line = drawn_line(dice, desk.ground.hosts)
                try:
                    wanted = plain.ask(line)
                except SeenError as error:
                    before = shown(desk)
                    self.raises(error, desk.ask, line)
                    self.same(shown(desk), before)
                    errors.add((line.split(" ")[0], type(error).__name__))
                else:
                    call = dice.choice([desk, desk.ask, lambda line: desk.run(line)[0], lambda line: desk.ask(line=line),
                                        lambda line: desk(line=line)])
                    self.same(call(line), wanted)
                    self.assertNotIn("\n", wanted)
                words.add(line.split(" ")[0])
                self.same_desk(desk, plain)
            while plain.ask("undo") == "ok":
                self.same(desk.ask("undo"), "ok")
                self.same_desk(desk, plain)
            self.same([desk("undo"), len(desk)], ["nothing", 0])
        self.same(words, set(KINDS))
        self.assertGreater(len(errors), 15)

    def test_at_first(self):
        desk = Desk()
        self.same([desk.ground, len(desk), desk("show"), desk.twin_network(), desk.twin_record()],
                  [Tree.star("a", "b"), 0, "a b", Network(Tree.star("a", "b")), Record(["a", "b"])])
        self.same(desk.run("undo", "trees", "next", "seers a", "knowers a", "would a b", "play -", "rounds 3 a -"),
                  ["nothing", "a b", "none", "-", "-", "b", "none", "0"])
        self.same([len(desk), desk.run("undo", "undo"), len(desk)], [1, ["ok", "nothing"], 0])
        self.same([desk.run(), Desk().run("tree a", "send a *", "show")], [[], ["ok", "-", "a"]])

    def test_a_web_as_the_ground(self):
        desk = Desk()
        self.same(desk("web " + web_text(WEB).replace("\n", " ; ")), "ok")
        self.assertTrue(desk.ground == WEB)
        self.assertIs(type(desk.ground), Web)
        self.same(desk.run("send b c", "send c b", "knowers c", "would a c", "show", "same a b (c d)", "same a b c d"),
                  ["a c d", "b", "3 4 5", "c", "a b (c d)", "yes", "no"])
        self.same(desk("answer d a b c"), "a b / c d")
        self.same(desk.run("tree a b c d", "answer d a b c"), ["ok", "none"])

    def test_hosts_that_are_named_as_words(self):
        desk = Desk()
        hosts = "web link host record watch note saw none trees".split()
        self.same(desk("web web ; " + " ; ".join(f"host {host} 0" for host in sorted(hosts))), "ok")
        self.same(desk.run("send saw note", "seers saw", "would note saw", "rounds 2 web link web, none *"),
                  [" ".join(sorted(set(hosts) - {"saw"}))] * 2 + ["saw", "4"])
        plain = PlainDesk()
        for line in ["tree none note saw watch", "watch saw watch", "note saw watch saw watch", "note note saw saw saw",
                     "judge saw note none watch", "trees", "next", "undo", "trees", "same none note saw watch"]:
            self.same(desk(line), plain.ask(line))

    def test_judged(self):
        desk = Desk()
        lines = ["tree a b (c h)", "judge a b c h", "note b c saw a c h", "note c b saw b", "note a c saw c h",
                 "judge h c b a", "trees", "undo", "note a c saw c", "judge h c b a", "note a h saw b c h",
                 "note h a saw a", "note c a saw a", "judge a b c h", "watch a", "note b c saw a", "note c b saw -",
                 "note b a saw a", "judge a b c h"]
        answers = desk.run(*lines)
        plain = PlainDesk()
        self.same(answers, [plain.ask(line) for line in lines])
        self.same([answers[1], answers[5]], ["open 4", "sure a h / b c"])
        star, net, plan = Desk(), Network(Tree.star(*"abch")), least_plan(Record(tuple("abch")))
        star("tree a b c h")
        while plan.depth:
            sight = net.send(plan.frame)
            star(f"note {plan.frame} saw {' '.join(sight)}")
            plan = dict(plan.cases)[sight]
        self.same(star.run("trees", "judge a b c h"), ["a b c h", "sure none"])

    def test_numbers_of_rounds(self):
        desk = Desk()
        for number, wanted in [("0", "0"), ("1", "1"), ("9" * 40, "9" * 40), ("1" + "0" * 40, "1" + "0" * 40)]:
            self.same(desk(f"rounds {number} b a b"), wanted)
        self.raises(BadNumber(10 ** 40 + 1), desk.ask, "rounds 1" + "0" * 39 + "1 b a b")
        self.raises(BadNumber(int("9" * 41)), desk.ask, "rounds " + "9" * 41 + " b a b")
        self.raises(BadText(0, 1), desk.ask, "rounds 1" + "0" * 41 + " b a b")
        self.raises(NoHost("x"), desk.ask, "rounds " + "9" * 41 + " y x b")
        self.raises(NoHost("y"), desk.ask, "rounds " + "9" * 41 + " y a b")
        for word in ("00", "01", "-1", "+1", "1.", "a", ""):
            self.raises(BadText(0, 1), desk.ask, f"rounds {word} b a b")


class Runs(Case):

    def test_an_error_leaves_the_desk_as_it_was(self):
        desk = Desk()
        desk.run("tree a b (c h)", "send a b", "watch a", "note b c saw a", "send b *", "undo")
        before = shown(desk)
        for lines, error in [
                (["send c a", "note c b saw a", "undo", "undo", "undo", "undo", "x"], BadSay("x")),
                (["tree a b c", "send a b", "undo", "undo", "undo", "send a x"], NoHost("x")),
                (["undo"] * 9 + ["web web"], BadText(0, 2)), ([7], BadSay(7)), (["watch a b", None], BadSay(None)),
                (["watch b", "note a *  saw b"], BadText(0, 3)), (["tree a b c d e f g", "trees"], BadSay("record")),
                (["note b c saw a"] * 19 + ["note b c saw a"], TooMany("notes", 20))]:
            self.raises(error, desk.run, *lines)
            self.same(shown(desk), before)
        self.same(desk.run("undo", "undo", "undo", "undo", "undo"), ["ok"] * 4 + ["nothing"])

    def test_answers_are_a_list_of_the_caller(self):
        desk = Desk()
        found = desk.run("show", "send a b")
        self.assertIs(type(found), list)
        found.append("x")
        self.same([desk.run("show"), len(desk)], [["a b"], 1])

    def test_undo_step_by_step(self):
        desk = Desk()
        states = [shown(desk)]
        lines = ["send a b", "tree a b c h", "send a b", "play a b, b *", "watch h", "note a b saw h", "note a b saw -",
                 "web web ; host a 4 ; host b 4", "note a b saw b", "play -", "watch -"]
        for line in lines:
            desk(line)
            states.append(shown(desk))
            for wrong in ("send x a", "x", "undo x", "tree a a", "note a b saw a", "watch x", "judge a b c"):
                with self.assertRaises(SeenError):
                    desk(wrong)
            for question in ("show", "seers a", "trees", "next", "would a b", "knowers b", "same a b"):
                try:
                    desk(question)
                except (Unlike, NothingFits):
                    pass
            self.same(shown(desk), states[-1])
        for state in states[-2::-1]:
            self.same(desk("undo"), "ok")
            self.same(shown(desk), state)
        self.same([desk("undo"), shown(desk)], ["nothing", states[0]])

    def test_twins_go_their_own_ways(self):
        desk = Desk()
        desk.run("tree a b (c h)", "send a b", "note b c saw a c h")
        network, record = desk.twin_network(), desk.twin_record()
        self.same([type(network), type(record)], [Network, Record])
        network.send(Frame("b", "a"))
        network.reset()
        record.back()
        record.set_watchers([])
        self.same([len(desk.twin_network()), len(desk.twin_record()), desk.twin_record().watchers], [1, 1, tuple("abch")])
        kept = desk.twin_network(), desk.twin_record()
        desk.run("send c *", "note a c saw c", "undo", "undo", "undo", "undo")
        self.same([len(kept[0]), len(kept[1])], [1, 1])

    def test_no_record(self):
        desk = Desk()
        desk("tree a b c d e f g")
        self.same(desk.twin_record(), None)
        for line in ("watch -", "watch x", "note a b saw b", "note x y saw z", "trees", "judge a b c d", "next"):
            self.raises(BadSay("record"), desk.ask, line)
        for line, error in [("watch", BadText(0, 1)), ("note a b saw", BadText(0, 4)), ("trees x", BadText(0, 1)),
                            ("judge a b c", BadText(0, 4)), ("next ", BadText(0, 1)), ("note a a", BadText(0, 2))]:
            self.raises(error, desk.ask, line)
        self.same(desk.run("send a b", "undo", "undo", "trees"), ["b c d e f g", "ok", "ok", "a b"])
        self.assertIsNotNone(desk.twin_record())
        six = Desk()
        six("tree a b c d e f")
        self.same(six.twin_record(), Record(letters(6)))


class Errors(Case):

    def test_no_lines(self):
        desk = Desk()
        for value in any_values():
            wanted = BadSay(value.split(" ")[0] if isinstance(value, str) else value)
            for call in (desk.ask, desk, desk.run):
                self.raises(wanted, call, value)
        for text in ("", " show", "Show", "show\n", "\nshow", "sends a b", "show,", "ok"):
            self.raises(BadSay(text.split(" ")[0]), desk.ask, text)

    def test_one_thing_otherwise(self):
        faults = answers = 0
        desk = Desk()
        desk.run("tree a b (c h)", "note a b saw b c h")
        for line in LINES:
            for text in texts_otherwise(line, WORDS, between=" ; "):
                word = text.split(" ")[0]
                if word not in KINDS:
                    self.raises(BadSay(word), desk.ask, text)
                elif line_fault(text) is not None:
                    self.raises(line_fault(text), desk.ask, text)
                    faults += 1
                else:
                    try:
                        desk.ask(text)
                    except SeenError as error:
                        self.assertNotIsInstance(error, (BadText, BadSay))
                    answers += 1
                    desk = Desk()
                    desk.run("tree a b (c h)", "note a b saw b c h")
        self.assertGreater(faults, 1000)
        self.assertGreater(answers, 100)

    def test_first_wrong_words(self):
        desk = Desk()
        for line, word in [
                ("web", 1), ("web web", 2), ("web web ;", 3), ("web web ; ; host a 0", 3), ("web host a 0", 1),
                ("web web host a 0", 2), ("web web ; link 0 ; host a 0", 5), ("web web ; link 1 0 ; host a 0", 5),
                ("web web ; host a 0 ;", 7), ("web web ; host a 0 0", 6), ("web web ;  host a 0", 3),
                ("web web ; link 0 1", 6), ("web web;", 1), ("web web\nhost a 0", 1), ("web web ; host b 0 ; host a 0", 8),
                ("tree", 1), ("tree ", 1), ("tree b a", 1), ("tree a b\n", 1), ("tree a (b c)", 1), ("tree  a", 1),
                ("send", 1), ("send a", 2), ("send a a", 2), ("send a b c", 3), ("send * a", 1), ("send a b ", 3),
                ("play", 1), ("play a", 1), ("play a b c", 1), ("play a b,", 1), ("play - a", 1), ("play a b, c c", 1),
                ("watch", 1), ("watch - a", 2), ("watch a -", 2), ("watch a  b", 2), ("watch a B", 2),
                ("note a b", 3), ("note a b saw", 4), ("note a b seen b", 3), ("note a b saw - b", 5),
                ("note a b saw b -", 5), ("note a", 2), ("note a b saw b ", 5),
                ("undo x", 1), ("show x", 1), ("trees ", 1), ("next x y", 1), ("answer a b c", 4), ("answer a b c d e", 5),
                ("answer a b C d", 3), ("judge", 1), ("would a", 2), ("would b b", 2), ("seers", 1), ("seers a b", 2),
                ("seers *", 1), ("knowers", 1), ("knowers a ", 2), ("rounds", 1), ("rounds 1", 2), ("rounds 1 a", 3),
                ("rounds 1 A a b", 2), ("rounds 1 a a a", 3), ("rounds 01 a a b", 1), ("rounds 1 a b c, d", 3),
                ("same", 1), ("same a b ", 1)]:
            self.raises(BadText(0, word), desk.ask, line)
            self.same_error(line_fault(line), BadText(0, word))
        self.same(len(desk), 0)

    def test_what_is_called_raises_its_errors(self):
        desk = Desk()
        desk("tree a b (c h)")
        kept = shown(desk)
        for line, error in [
                ("web web ; link 0 1 ; link 0 2 ; link 1 2 ; host a 0", BadWeb("ring")),
                ("web web ; link 0 1 ; host a 5", BadWeb("apart")), ("send a x", NoHost("x")), ("send x y", NoHost("x")),
                ("play a x, w b", NoHost("w")), ("watch a x", BadSight(("a", "x"))), ("watch a a", BadSight(("a", "a"))),
                ("note x a saw a", NoHost("x")), ("note a b saw c x", BadSight("x")), ("note a b saw a", BadSight("a")),
                ("note a b saw b b", BadSight("b")), ("answer a x y a", NoHost("x")),
                ("answer a b a c", BadFour(("a", "b", "a", "c"))), ("would a x", NoHost("x")), ("seers x", NoHost("x")),
                ("knowers x", NoHost("x")), ("rounds 1 a a x", NoHost("x")), ("rounds 1 x a b", NoHost("x")),
                ("judge a b c x", BadFour(("a", "b", "c", "x"))), ("judge h c b b", BadFour(("h", "c", "b", "b"))),
                ("same a b", Unlike()), ("same a b c d", Unlike()),
                ("play " + ", ".join(["a b"] * 61), TooMany("frames", 60)),
                ("rounds 2 x " + ", ".join(["a x"] * 61), TooMany("frames", 60)),
                ("play " + ", ".join(["a b"] * 61 + ["a a"]), BadText(0, 1)),
                ("rounds 2 x " + ", ".join(["a x"] * 61) + " ", BadText(0, 3)),
                ("web web ; " + " ; ".join(f"host {name} 0" for name in sorted(letters(41))), TooMany("hosts", 40))]:
            self.raises(error, desk.ask, line)
            self.raises(error, desk, line)
            self.raises(error, desk.run, "send a b", line)
            self.same(shown(desk), kept)
        desk("note a b saw -")
        self.raises(NothingFits(), desk.ask, "judge a b c h")
        self.raises(NothingFits(), desk.ask, "next")
        self.raises(BadFour(("a", "b", "c", "c")), desk.ask, "judge a b c c")
        self.same(desk.run("trees", "undo", "trees"), ["none", "ok", "a b c h ; a (b c) h ; a (b h) c ; a b (c h)"])

    def test_sixty_frames_and_twenty_notes(self):
        desk = Desk()
        self.same(desk("play " + ", ".join(["a b"] * 60)), ", ".join(["b"] * 60))
        for many in range(20):
            self.same(desk("note a b saw b"), "1")
        self.raises(TooMany("notes", 20), desk.ask, "note a b saw b")
        self.same([len(desk), desk("undo"), desk("note b a saw -"), len(desk)], [21, "ok", "0", 21])
        self.same([desk("watch b"), len(desk.twin_record()), desk.twin_record().watchers], ["ok", 0, ("b",)])


class Quick(Case):

    def test_a_hundred_switches(self):
        names = sorted(letters(40))
        links = [(at, at + 1) for at in range(99)]
        web = Web(links, {name: 99 * at // 39 for at, name in enumerate(names)})
        desk = Desk()
        self.soon(desk.ask, "web " + web_text(web).replace("\n", " ; "))
        self.assertTrue(desk.ground == web)
        row = History.of(drawn_frames(1, names, 60))
        for line in (f"play {row}", f"rounds {10 ** 40} {names[0]} {row}", "show", f"would {names[0]} {names[-1]}",
                     f"knowers {names[3]}", "answer aa ab ac ad", f"same {web.tree}", "undo"):
            self.soon(desk.ask, line)

    def test_six_hosts(self):
        tree = Tree(*caterpillar_cuts(6))
        desk = Desk()
        desk(f"tree {tree}")
        play = Network(tree)
        for frame in [None, *drawn_frames(2, tree.hosts, 12)]:
            if frame is not None:
                self.soon(desk.ask, f"note {frame} saw {' '.join(play.send(frame))}")
            for line in ("trees", "judge a b e f", "next"):
                self.soon(desk.ask, line)

    def test_ordinary_lines(self):
        desk = Desk()
        desk("tree a b (c h)")
        lines = ["send a b", "send b a", "would c a", "note a b saw b c h", "note b a saw a", "trees", "judge a b c h",
                 "next", "knowers a", "rounds 100 a a b, b *", "undo", "undo", "answer a b c h", "same a b c h", "undo",
                 "undo"]
        start = time.perf_counter()
        for _ in range(40):
            for line in lines:
                desk(line)
        self.assertLess((time.perf_counter() - start) / 40 / len(lines), 0.004)
        self.same(len(desk), 1)

    def test_many_lines(self):
        desk = Desk()
        start = time.perf_counter()
        for _ in range(400):
            desk("send a b")
        self.same([desk.run(*["undo"] * 400), len(desk)], [["ok"] * 400, 0])
        self.assertLess(time.perf_counter() - start, 2)
