"""Reads the texts of webs and records. A text is told by rows of words, one row for each line."""

from seenframes.errors import BadText
from seenframes.frames import Frame
from seenframes.names import is_name
from seenframes.records import Record
from seenframes.webs import Web


def read_web(text):
    """The web with just this text."""
    return web_of(rows_of(text))


def read_record(text):
    """The record with just this text."""
    return record_of(rows_of(text))


def rows_of(text):
    """The rows of the words of any value as a text."""
    if not isinstance(text, str):
        raise BadText(0, 0)
    return [line.split(" ") for line in text.split("\n")]


def word_at(rows, line, word):
    """A word of a line, where one must stand."""
    if word >= len(rows[line]):
        raise BadText(line, word)
    return rows[line][word]


def check_word(rows, line, word, wanted):
    """Raises what is wrong if another word stands there, or none."""
    if word_at(rows, line, word) != wanted:
        raise BadText(line, word)


def check_end(rows, line, many):
    """Raises what is wrong if there are more words in a line."""
    if len(rows[line]) > many:
        raise BadText(line, many)


def is_number(word, digits):
    """Whether a word is an integer from 0 on, as str writes it, with at most so many digits."""
    if not word.isascii() or not word.isdigit() or len(word) > digits:
        return False
    return word == "0" or not word.startswith("0")


def switch_at(rows, line, word):
    """The switch that a word tells."""
    text = word_at(rows, line, word)
    if not is_number(text, 2):
        raise BadText(line, word)
    return int(text)


def name_at(rows, line, word, last):
    """The name at a place, which is greater than the last one of its list. No name is empty."""
    text = word_at(rows, line, word)
    if not is_name(text) or text <= last:
        raise BadText(line, word)
    return text


def web_of(rows):
    """The web that some rows of words tell."""
    check_word(rows, 0, 0, "web")
    check_end(rows, 0, 1)
    links = []
    places = {}
    last = ""
    for line in range(1, len(rows)):
        word = word_at(rows, line, 0)
        if word == "host":
            last = name_at(rows, line, 1, last)
            places[last] = switch_at(rows, line, 2)
        elif word == "link" and not places:
            links.append(link_at(rows, line, links[-1] if links else (-1, -1)))
        else:
            raise BadText(line, 0)
        check_end(rows, line, 3)
    if not places:
        raise BadText(len(rows), 0)
    return Web(links, places)


def link_at(rows, line, last):
    """The link that a line tells, which is greater than the last one."""
    one = switch_at(rows, line, 1)
    other = switch_at(rows, line, 2)
    if other <= one or (one, other) <= last:
        raise BadText(line, 2)
    return (one, other)


def record_of(rows):
    """The record that some rows of words tell."""
    check_word(rows, 0, 0, "record")
    word_at(rows, 0, 1)
    hosts = names_from(rows, 0, 1, None)
    if len(rows) < 2:
        raise BadText(1, 0)
    check_word(rows, 1, 0, "watch")
    watchers = names_from(rows, 1, 1, hosts)
    notes = [note_at(rows, line, hosts, watchers) for line in range(2, len(rows))]
    record = Record(hosts, watchers)
    for frame, seen in notes:
        record.note(frame, *seen)
    return record


def names_from(rows, line, first, among):
    """The list of the names that stand in a line from a word on. They are among some names, or among is None."""
    names = []
    for word in range(first, len(rows[line])):
        name = name_at(rows, line, word, names[-1] if names else "")
        if among is not None and name not in among:
            raise BadText(line, word)
        names.append(name)
    return names


def note_at(rows, line, hosts, watchers):
    """The pair of the frame and of those that saw it, of the note that a line tells."""
    check_word(rows, line, 0, "note")
    sender = word_at(rows, line, 1)
    if sender not in hosts:
        raise BadText(line, 1)
    target = word_at(rows, line, 2)
    if target != "*" and (target == sender or target not in hosts):
        raise BadText(line, 2)
    frame = Frame(sender, None if target == "*" else target)
    if len(rows[line]) == 3:
        return (frame, [])
    check_word(rows, line, 3, "saw")
    word_at(rows, line, 4)
    return (frame, names_from(rows, line, 4, [watcher for watcher in watchers if watcher != sender]))
