"""Findings: what a record tells about four hosts, looked at tree by tree."""

from seenframes.checks import four_in, is_whole
from seenframes.errors import NothingFits
from seenframes.names import fours_in
from seenframes.partings import answer_marked, answers_of
from seenframes.trees import Tree, all_trees


class Finding:
    """What is told about four hosts: a Sure or an Open. It is not made itself."""

    def __bool__(self):
        return isinstance(self, Sure)


class Sure(Finding):
    """Four hosts, the one answer of all trees that fit, and the faults of the trees with other answers."""

    def __init__(self, four, answer, faults):
        self.four = four
        self.answer = answer
        self.faults = faults

    def __eq__(self, other):
        if not isinstance(other, Sure):
            return False
        return self.four == other.four and self.answer == other.answer and self.faults == other.faults

    def __bool__(self):
        return True


class Open(Finding):
    """Four hosts, and trees that fit with unlike answers."""

    def __init__(self, four, trees):
        self.four = four
        self.trees = trees

    def __eq__(self, other):
        if not isinstance(other, Open):
            return False
        return self.four == other.four and self.trees == other.trees

    def __bool__(self):
        return False


def judge(record, four):
    """What a record tells about four hosts."""
    hosts = four_in(record.hosts, four)
    rows = trees_judged(record)
    trees = [tree for tree, fault in rows if fault is None]
    if not trees:
        raise NothingFits()
    firsts = first_trees(trees, hosts)
    if len(firsts) > 1:
        return Open(hosts, firsts)
    answer = answer_marked(trees[0].marks, hosts)
    return Sure(hosts, answer, faults_beside(rows, hosts, answer))


def barren(record):
    """The faults of all trees, in order; None if a tree fits."""
    faults = tuple([fault for _, fault in trees_judged(record)])
    return None if None in faults else faults


def shows_finding(record, value):
    """Whether any value is what a record tells about four of its hosts."""
    if not isinstance(value, Finding) or value.four not in fours_in(record.hosts):
        return False
    if isinstance(value, Sure):
        return shows_sure(record, value)
    return shows_open(record, value)


def shows_barren(record, value):
    """Whether any value is the tuple of the faults of all trees, where none fits."""
    faults = barren(record)
    return faults is not None and are_faults(value, faults)


def trees_judged(record):
    """A list of pairs of all trees with the hosts of a record, in order, and their faults."""
    return [(tree, record.fault(tree)) for tree in all_trees(record.hosts)]


def first_trees(trees, four):
    """The tuple of the first trees with each answer for four hosts, in the order of the answers."""
    firsts = []
    for answer in answers_of(four):
        found = [tree for tree in trees if answer_marked(tree.marks, four) == answer]
        firsts.extend(found[:1])
    return tuple(firsts)


def faults_beside(rows, four, answer):
    """The tuple of the faults of the trees with another answer for four hosts."""
    return tuple([fault for tree, fault in rows if answer_marked(tree.marks, four) != answer])


def shows_sure(record, value):
    """Whether a Sure about four hosts of a record has the one answer, and just the faults."""
    rows = trees_judged(record)
    answers = [answer_marked(tree.marks, value.four) for tree, fault in rows if fault is None]
    if not answers or not all([answer == value.answer for answer in answers]):
        return False
    return are_faults(value.faults, faults_beside(rows, value.four, value.answer))


def shows_open(record, value):
    """Whether an Open about four hosts of a record has trees that fit, with ascending answers."""
    answers = answers_of(value.four)
    if not isinstance(value.trees, tuple) or not 2 <= len(value.trees) <= len(answers):
        return False
    places = []
    for tree in value.trees:
        if not isinstance(tree, Tree) or tree.hosts != record.hosts or not record.fits(tree):
            return False
        places.append(answers.index(answer_marked(tree.marks, value.four)))
    return places == sorted(set(places))


def are_faults(value, faults):
    """Whether any value is just this tuple of faults."""
    # Tuples equal tuples alone, and names equal names: but True equals 1.
    return value == faults and all([is_whole(fault[0]) for fault in value])
