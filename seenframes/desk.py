"""Desk: a ground, a network of it and a record of its hosts, asked by lines."""

from seenframes.alikes import alike, tree_of
from seenframes.errors import BadSay
from seenframes.lines import is_known, line_told
from seenframes.networks import Network
from seenframes.nexts import next_frame
from seenframes.records import Record
from seenframes.rounds import Rounds
from seenframes.sure import Sure, judge
from seenframes.trees import Tree

# The lines that ask or change the record.
OF_RECORDS = ("watch", "note", "trees", "judge", "next")


def state_of(ground):
    """The state of a desk with a new ground: the ground, a network and a record of it. The record is None where there
    are too many hosts. What stands in a state never changes: a line that changes something makes a new one."""
    record = Record(ground.hosts) if len(ground.hosts) <= Record.MOST else None
    return (ground, Network(ground), record)


def names_text(names):
    """Some names, or `-` for none."""
    return " ".join(names) if names else "-"


def answer_text(answer):
    """The text of an answer of four hosts, or `none`."""
    return "none" if answer is None else str(answer)


def ground_laid(_, ground):
    """What a new ground leads to: the answer, and the state."""
    return ("ok", state_of(ground))


def frame_sent(state, frame):
    """What a frame leads to."""
    ground, network, record = state
    sent = network.twin()
    sight = sent.send(frame)
    return (names_text(sight), (ground, sent, record))


def row_played(state, row):
    """What a row of frames leads to."""
    ground, network, record = state
    sent = network.twin()
    sights = [names_text(sight) for sight in sent.play(row)]
    return (", ".join(sights) if sights else "none", (ground, sent, record))


def watchers_set(state, watchers):
    """What new watchers lead to."""
    ground, network, _ = state
    return ("ok", (ground, network, Record(ground.hosts, watchers)))


def noted(state, said):
    """What a note more leads to."""
    ground, network, record = state
    frame, seen = said
    more = record.twin()
    more.note(frame, *seen)
    return (str(len(list(more.fitting()))), (ground, network, more))


def tree_shown(state, _):
    """The text of the tree of the ground."""
    return str(tree_of(state[0]))


def four_answered(state, four):
    """The text of the answer of the ground for four hosts."""
    a, b, c, d = four
    tree = tree_of(state[0])
    return answer_text(tree(a, b, c, d))


def sight_told(state, frame):
    """The sight that a frame would have now."""
    return names_text(state[1].would(frame))


def seers_told(state, host):
    """The seers of a host."""
    return names_text(state[1].seers(host))


def knowers_told(state, host):
    """The knowers of a host."""
    return names_text([str(switch) for switch in state[1].knowers(host)])


def rounds_counted(state, said):
    """How many frames a host sees in so many rounds of a row."""
    number, host, row = said
    return str(Rounds(state[0], row).count(host, number))


def trees_told(state, _):
    """The texts of the trees that fit the record."""
    record = state[2]
    trees = [str(tree) for tree in record.fitting()]
    return " ; ".join(trees) if trees else "none"


def four_judged(state, four):
    """What is sure about four hosts."""
    found = judge(state[2], four)
    if isinstance(found, Sure):
        return f"sure {answer_text(found.answer)}"
    return f"open {len(found.trees)}"


def next_told(state, _):
    """The frame that tells most, and how many trees it leaves at worst."""
    found = next_frame(state[2])
    return "none" if found is None else f"{str(found.frame)} leaves {found.worst}"


def tree_compared(state, tree):
    """Whether the ground and a tree are alike."""
    return "yes" if alike(state[0], tree) else "no"


CHANGES = {
    "web": ground_laid, "tree": ground_laid, "send": frame_sent, "play": row_played, "watch": watchers_set,
    "note": noted,
}
QUESTIONS = {
    "show": tree_shown, "answer": four_answered, "would": sight_told, "seers": seers_told, "knowers": knowers_told,
    "rounds": rounds_counted, "trees": trees_told, "judge": four_judged, "next": next_told, "same": tree_compared,
}


class Desk:
    """A ground, a network of it and a record of its hosts. Beside their state it has those that can be taken back."""

    def __init__(self):
        self.state = state_of(Tree.star("a", "b"))
        self.past = []

    @property
    def ground(self):
        """The ground: a web or a tree."""
        return self.state[0]

    def ask(self, line):
        """Carries out a line, any value, and returns its answer."""
        if not isinstance(line, str):
            raise BadSay(line)
        words = line.split(" ")
        word = words[0]
        if not is_known(word):
            raise BadSay(word)
        said = line_told(words)
        if word in OF_RECORDS and self.state[2] is None:
            raise BadSay("record")
        if word == "undo":
            return self.undo()
        if word in QUESTIONS:
            question = QUESTIONS[word]
            return question(self.state, said)
        change = CHANGES[word]
        answer, state = change(self.state, said)
        self.past.append(self.state)
        self.state = state
        return answer

    def __call__(self, line):
        return self.ask(line)

    def undo(self):
        """Takes back the last line that changed something and is not taken back."""
        if not self.past:
            return "nothing"
        self.state = self.past.pop()
        return "ok"

    def run(self, *lines):
        """The list of the answers to some lines. If one raises an error, nothing changes."""
        # The lines are asked at another desk, which this one is put on behind the last one.
        desk = Desk()
        desk.state = self.state
        desk.past = list(self.past)
        answers = [desk.ask(line) for line in lines]
        self.state = desk.state
        self.past = desk.past
        return answers

    def twin_network(self):
        """A twin of the network."""
        return self.state[1].twin()

    def twin_record(self):
        """A twin of the record; None if there is none."""
        record = self.state[2]
        return None if record is None else record.twin()

    def __len__(self):
        return len(self.past)
