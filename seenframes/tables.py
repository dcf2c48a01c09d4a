"""Tables: an answer for each four of some hosts."""

from seenframes.checks import check_host, four_asked, four_in
from seenframes.errors import BadAnswer, Misfit, Unlike
from seenframes.names import ascending, fours_in, hosts_of
from seenframes.partings import Parting, answer_marked, parts
from seenframes.trees import Tree, cut_behind
from seenframes.trials import Trial


class Table:
    """An answer for each four of some hosts. The state has it for each ascending tuple of four."""

    MOST = 12

    def __init__(self, hosts):
        self.hosts = hosts_of(hosts, self.MOST)
        self.state = {four: None for four in fours_in(self.hosts)}

    @classmethod
    def of_tree(cls, tree):
        """The table of a tree."""
        table = cls(tree.hosts)
        table.state = {four: answer_marked(tree.marks, four) for four in table.state}
        return table

    def __getitem__(self, at):
        return self.state[four_in(self.hosts, at)]

    def __setitem__(self, at, worth):
        four = four_in(self.hosts, at)
        if worth is not None and (not isinstance(worth, Parting) or worth.four != four):
            raise BadAnswer(worth)
        self.state[four] = worth

    def __iter__(self):
        raise TypeError("a table is not iterated over")

    def __call__(self, a, b, c, d):
        return self.state[four_asked(self.hosts, (a, b, c, d))]

    def __len__(self):
        return len([answer for answer in self.state.values() if answer is not None])

    def __contains__(self, x):
        return isinstance(x, Parting) and self.state.get(x.four) == x

    def each(self):
        """The answers that are partings, ascending."""
        answers = list(self.state.values())
        for answer in answers:
            if answer is not None:
                yield answer

    @property
    def is_tree(self):
        """Whether this is the table of a tree."""
        return first_misfit(self) is None

    def rebuilt(self):
        """The tree with this table."""
        five = first_misfit(self)
        if five is not None:
            raise Misfit(five)
        return Tree(self.hosts, [cut_behind(self.hosts, side) for side in sides_of(self)])

    def only(self, hosts):
        """The table of some of the hosts."""
        names = hosts_of(hosts)
        for name in names:
            check_host(self.hosts, name)
        return table_with(names, {four: self.state[four] for four in fours_in(names)})

    def twin(self):
        """A table of its own with the same answers."""
        return table_with(self.hosts, {four: self.state[four] for four in self.state})

    def __eq__(self, other):
        if not isinstance(other, Table):
            return False
        return self.hosts == other.hosts and self.state == other.state

    def __le__(self, other):
        check_alike(self, other)
        return all([answer is None or answer in other for answer in self.state.values()])

    def __ge__(self, other):
        check_alike(self, other)
        return all([answer is None or answer in self for answer in other.state.values()])

    def trial(self):
        """What a `with` statement takes, behind whose block the table is as it was."""
        return Trial(self)

    def tried(self, work):
        """What work returns of the table, which then is as it was."""
        with self.trial() as same:
            return work(same)


def check_alike(table, other):
    """Raises Unlike() unless any value is a table with the hosts of this one."""
    if not isinstance(other, Table) or table.hosts != other.hosts:
        raise Unlike()


def table_with(hosts, state):
    """The table of an ascending tuple of hosts that has these answers."""
    # A table of one host has no answers that would be made in vain.
    table = Table(hosts[:1])
    table.hosts = hosts
    table.state = state
    return table


def first_misfit(table):
    """The first five hosts whose answers are not those of a tree of these five; None if there are none."""
    # The property is_tree asks this: so it goes over lists, not over what yields. What stands behind the first
    # five that do not fit is not looked at.
    state = table.state
    for at, a in enumerate(table.hosts):
        for b, c, d, e in fours_in(table.hosts[at + 1:]):
            answers = [state[(b, c, d, e)], state[(a, c, d, e)], state[(a, b, d, e)], state[(a, b, c, e)],
                       state[(a, b, c, d)]]
            partings = [answer for answer in answers if answer is not None]
            if partings and not fit_five(partings):
                return (a, b, c, d, e)
    return None


def fit_five(partings):
    """Whether the partings among the answers of five hosts are those of a tree of the five. There are some."""
    # A cut of five hosts has a pair on one side, and makes just the three partings with this pair. The
    # partings of a tree are those of its cuts. Two cuts that cross cannot both have all of theirs: they make
    # unlike partings of four hosts.
    if len(partings) not in (3, 5):
        return False
    counts = {}
    for parting in partings:
        for pair in parting.pairs:
            counts[pair] = counts.get(pair, 0) + 1
    return all([counts[parting.pairs[0]] == 3 or counts[parting.pairs[1]] == 3 for parting in partings])


def sides_of(table):
    """A list with a side of each cut of the table's tree."""
    marks = {host: 0 for host in table.hosts}
    sides = []
    for answer in table.state.values():
        # For each cut there is a parting that no other one makes: it is found then at the latest.
        if answer is not None and not is_parted(marks, answer):
            side = side_with(table, answer.pairs[0], answer.pairs[1])
            for host in side:
                marks[host] = marks[host] | (1 << len(sides))
            sides.append(side)
    return sides


def is_parted(marks, parting):
    """Whether one of some sides, which the bits of hosts tell, has just one pair of a parting."""
    one, other = parting.pairs
    return parts(marks, one[0], one[1], other[0], other[1])


def side_with(table, one, other):
    """The side with the pair `one` of a cut of the table's tree that makes `one / other`."""
    # Of the cuts that make it this is the last one on the way to the pair `other`: the hosts on its other side
    # leave the way where `other` parts. Each cut alone makes some parting: both of its ends have at least two
    # ways on, and the parting takes a host behind each.
    return tuple([host for host in table.hosts if host in one or is_beside(table, host, one[0], other)])


def is_beside(table, host, mate, other):
    """Whether a host has a mate in the answer that has the pair `other`, too."""
    answer = table.state.get(ascending([host, mate, *other]))
    return answer is not None and other in answer.pairs
