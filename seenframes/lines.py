"""Lines: what the words of a line for a desk tell behind its first word."""

from seenframes.errors import BadText
from seenframes.frames import Frame, History, hosts_told
from seenframes.names import is_name
from seenframes.reader import is_number, web_of
from seenframes.trees import Tree

# The most digits of a number of rounds.
MOST_DIGITS = 41


def is_known(word):
    """Whether a word is the first one of some line."""
    return word in READERS


def line_told(words):
    """What the words of a line tell behind the first one, which is one of those below."""
    reader = READERS[words[0]]
    return reader(words)


def check_place(words, at):
    """Raises what is wrong if there is no word at a place."""
    if at >= len(words):
        raise BadText(0, at)


def check_last(words, many):
    """Raises what is wrong if there are more words."""
    if len(words) > many:
        raise BadText(0, many)


def name_in(words, at):
    """The name at a place."""
    check_place(words, at)
    if not is_name(words[at]):
        raise BadText(0, at)
    return words[at]


def names_in(words, at):
    """The tuple of the names from a place on, which are one or more, or `-` for none."""
    check_place(words, at)
    if words[at] == "-":
        check_last(words, at + 1)
        return ()
    return tuple([name_in(words, place) for place in range(at, len(words))])


def nothing_told(words):
    """Nothing more stands in the line."""
    check_last(words, 1)
    return None


def host_told(words):
    """The name of a host."""
    host = name_in(words, 1)
    check_last(words, 2)
    return host


def four_told(words):
    """The tuple of four names."""
    four = tuple([name_in(words, at) for at in range(1, 5)])
    check_last(words, 5)
    return four


def watchers_told(words):
    """The tuple of the watchers."""
    return names_in(words, 1)


def frame_told(words):
    """A frame."""
    sender, target = hosts_told(words, 1, "")
    check_last(words, 3)
    return Frame(sender, target)


def note_told(words):
    """The pair of a frame and of the tuple of those that saw it."""
    sender, target = hosts_told(words, 1, "")
    check_place(words, 3)
    if words[3] != "saw":
        raise BadText(0, 3)
    return (Frame(sender, target), names_in(words, 4))


def row_in(words, at):
    """The row of frames that the words from a place on tell, of which the first one is wrong if any is."""
    try:
        return History.read(" ".join(words[at:]))
    except BadText:
        raise BadText(0, at) from None


def row_told(words):
    """A row of frames."""
    return row_in(words, 1)


def rounds_told(words):
    """The triple of a number of rounds, a host and a row of frames."""
    check_place(words, 1)
    if not is_number(words[1], MOST_DIGITS):
        raise BadText(0, 1)
    host = name_in(words, 2)
    return (int(words[1]), host, row_in(words, 3))


def tree_told(words):
    """A tree, of whose words the first one is wrong if any is."""
    try:
        return Tree.read(" ".join(words[1:]))
    except BadText:
        raise BadText(0, 1) from None


def web_told(words):
    """A web. Its lines stand behind one another, with a word `;` ahead of each but the first one."""
    rows = [[]]
    for word in words[1:]:
        if word == ";":
            rows.append([])
        else:
            rows[-1].append(word)
    try:
        return web_of(rows)
    except BadText as wrong:
        # Where a line is missing, the word that is missing first is the one ahead of it.
        place = 1 + sum([len(row) + 1 for row in rows[:wrong.line]]) + wrong.word
        raise BadText(0, place if place < len(words) else len(words)) from None


READERS = {
    "web": web_told, "tree": tree_told, "send": frame_told, "play": row_told, "watch": watchers_told,
    "note": note_told, "undo": nothing_told, "show": nothing_told, "answer": four_told, "would": frame_told,
    "seers": host_told, "knowers": host_told, "rounds": rounds_told, "trees": nothing_told, "judge": four_told,
    "next": nothing_told, "same": tree_told,
}
