"""A plain reader of the texts of webs and records and of the lines of desks, written apart from that of the package.
It tells the first word that cannot stand."""

import re

from seenframes.errors import BadText
from seenframes.frames import History
from seenframes.trees import Tree

NAME = re.compile(r"[a-z]{1,8}\Z")
SWITCH = re.compile(r"(0|[1-9][0-9]?)\Z")
NUMBER = re.compile(r"(0|[1-9][0-9]{0,40})\Z")
# What stands where a word would: behind the last word of a line, and of the text.
END = None


def is_name(word):
    return NAME.match(word) is not None


class Wrong(Exception):
    """A word cannot stand: its line and place."""

    def __init__(self, line, word):
        self.place = (line, word)


class Line:
    """The words of a line, taken one by one."""

    def __init__(self, at, words):
        self.at, self.words, self.next = at, words, 0

    def more(self):
        return self.next < len(self.words)

    def wrong(self):
        return Wrong(self.at, self.next)

    def take(self, fits):
        if not self.more() or not fits(self.words[self.next]):
            raise self.wrong()
        self.next += 1
        return self.words[self.next - 1]

    def end(self):
        if self.more():
            raise self.wrong()


def web_parts(rows):
    """The links and the places that rows of words tell."""
    first = Line(0, rows[0])
    first.take(lambda word: word == "web")
    first.end()
    links, hosts = [], []
    for at, words in enumerate(rows[1:], 1):
        line = Line(at, words)
        kind = line.take(lambda word: word == "host" or word == "link" and not hosts)
        if kind == "link":
            one = int(line.take(SWITCH.match))
            low = max(one, links[-1][1] if links and links[-1][0] == one else -1)
            if links and links[-1][0] > one:
                low = 100
            other = int(line.take(lambda word: SWITCH.match(word) and int(word) > low))
            links.append((one, other))
        else:
            name = line.take(lambda word: is_name(word) and (not hosts or hosts[-1][0] < word))
            hosts.append((name, int(line.take(SWITCH.match))))
        line.end()
    if not hosts:
        raise Wrong(len(rows), 0)
    return links, dict(hosts)


def names_of(line, fits):
    """The ascending names up to the end of a line."""
    names = []
    while line.more():
        names.append(line.take(lambda word: is_name(word) and fits(word) and (not names or names[-1] < word)))
    return names


def record_parts(rows):
    """The hosts, the watchers and the notes that rows of words tell."""
    first = Line(0, rows[0])
    first.take(lambda word: word == "record")
    if not first.more():
        raise first.wrong()
    hosts = names_of(first, lambda word: True)
    if len(rows) == 1:
        raise Wrong(1, 0)
    second = Line(1, rows[1])
    second.take(lambda word: word == "watch")
    watchers = names_of(second, lambda word: word in hosts)
    notes = []
    for at, words in enumerate(rows[2:], 2):
        line = Line(at, words)
        line.take(lambda word: word == "note")
        sender = line.take(lambda word: word in hosts)
        target = line.take(lambda word: word == "*" or word in hosts and word != sender)
        seen = []
        if line.more():
            line.take(lambda word: word == "saw")
            if not line.more():
                raise line.wrong()
            seen = names_of(line, lambda word: word in watchers and word != sender)
        notes.append((sender, None if target == "*" else target, tuple(seen)))
    return hosts, watchers, notes


def told(parts, text):
    """What a text tells, or the place of its first wrong word as a BadText."""
    if not isinstance(text, str):
        return BadText(0, 0)
    try:
        return parts([line.split(" ") for line in text.split("\n")])
    except Wrong as wrong:
        return BadText(*wrong.place)


def take_frame(line):
    sender = line.take(is_name)
    line.take(lambda word: word == "*" or is_name(word) and word != sender)


def take_names(line):
    if line.take(lambda word: word == "-" or is_name(word)) != "-":
        while line.more():
            line.take(is_name)


def take_rest(kind):
    """What takes the words up to the end of the line as the text of an object of a class."""
    def taken(line):
        text = " ".join(line.words[line.next:])
        try:
            kind.read(text)
        except BadText:
            raise line.wrong() from None
        line.next = len(line.words)
    return taken


def take_web(line):
    rows, starts = [[]], [line.next]
    for at, word in enumerate(line.words[line.next:], line.next):
        if word == ";":
            rows.append([])
            starts.append(at + 1)
        else:
            rows[-1].append(word)
    try:
        web_parts(rows)
    except Wrong as wrong:
        row, word = wrong.place
        raise Wrong(0, len(line.words) if row == len(rows) else starts[row] + word) from None
    line.next = len(line.words)


def take_four(line):
    for _ in range(4):
        line.take(is_name)


def take_note(line):
    take_frame(line)
    line.take(lambda word: word == "saw")
    take_names(line)


def take_rounds(line):
    line.take(NUMBER.match)
    line.take(is_name)
    take_rest(History)(line)


def take_name(line):
    line.take(is_name)


def take_nothing(line):
    return None


KINDS = {
    "web": take_web, "tree": take_rest(Tree), "send": take_frame, "play": take_rest(History), "watch": take_names,
    "note": take_note, "undo": take_nothing, "show": take_nothing, "answer": take_four, "would": take_frame,
    "seers": take_name, "knowers": take_name, "rounds": take_rounds, "trees": take_nothing, "judge": take_four,
    "next": take_nothing, "same": take_rest(Tree)}


def line_fault(text):
    """The BadText of a line of a desk whose first word can stand; None if nothing is wrong."""
    line = Line(0, text.split(" "))
    line.next = 1
    try:
        KINDS[line.words[0]](line)
        line.end()
    except Wrong as wrong:
        return BadText(*wrong.place)
    return None


def words_otherwise(words, others):
    """Rows of words, each the given one with one thing otherwise."""
    found = []
    for at in range(len(words)):
        found.append(words[:at] + words[at + 1:])
        found.append(words[:at] + [words[at]] + words[at:])
        found.append(words[:at] + words[at:at + 2][::-1] + words[at + 2:])
        for other in others:
            found.append(words[:at] + [other] + words[at + 1:])
            found.append(words[:at] + [other] + words[at:])
        found.append(words[:at] + [words[at] + "\n"] + words[at + 1:])
    found.extend(words + [other] for other in others)
    return found


def texts_otherwise(text, others, between="\n"):
    """Texts, each the given one with one thing otherwise: words, lines, and signs at each place."""
    lines = text.split(between)
    found = []
    for at, line in enumerate(lines):
        for words in words_otherwise(line.split(" "), others):
            found.append(between.join(lines[:at] + [" ".join(words)] + lines[at + 1:]))
    for some in words_otherwise(lines, ["", " ", lines[0], lines[-1], others[0]]):
        found.append(between.join(some))
    for at in range(len(text) + 1):
        found.append(text[:at] + " " + text[at:])
    for sign in (" ", ",", ";", "\n", "\n\n", " ;", "\t"):
        found.extend([sign + text, text + sign])
    return list(dict.fromkeys(found))
