"""Trees: hosts, and cuts of them that do not cross."""

from seenframes.checks import check_host, four_asked, is_whole
from seenframes.cuts import Cut, ascending_cuts, first_crossing
from seenframes.errors import BadNames, BadNumber, BadText, BadTree, Crossed, SeenError, Unlike
from seenframes.names import are_names, hosts_of
from seenframes.partings import answer_marked


class Tree:
    """Some hosts, and cuts of them, no two of which cross."""

    MOST = 40

    def __init__(self, hosts, cuts=()):
        self.hosts = hosts_of(hosts, self.MOST)
        check_cuts(self.hosts, cuts)
        self.cuts = ascending_cuts(cuts)
        self.marks = marks_by(self.hosts, self.cuts)

    @classmethod
    def star(cls, *hosts):
        """The tree of some hosts without cuts."""
        return cls(hosts)

    @classmethod
    def read(cls, text):
        """The tree with just this text."""
        words, groups = groups_told(text)
        try:
            hosts = hosts_of(words, cls.MOST)
            tree = cls(hosts, [cut_behind(hosts, group) for group in groups])
        except SeenError:
            raise BadText(0, 0) from None
        if str(tree) != text:
            raise BadText(0, 0)
        return tree

    def __len__(self):
        return len(self.cuts)

    def __contains__(self, x):
        return isinstance(x, Cut) and x in self.cuts

    def __call__(self, a, b, c, d):
        return answer_marked(self.marks, four_asked(self.hosts, (a, b, c, d)))

    def __eq__(self, other):
        if not isinstance(other, Tree):
            return False
        return self.hosts == other.hosts and self.cuts == other.cuts

    def __and__(self, other):
        check_alike(self, other)
        return Tree(self.hosts, [cut for cut in self.cuts if cut in other.cuts])

    def __or__(self, other):
        check_alike(self, other)
        return Tree(self.hosts, ascending_cuts([*self.cuts, *other.cuts]))

    def __xor__(self, other):
        check_alike(self, other)
        cuts = [cut for cut in self.cuts if cut not in other.cuts]
        others = [cut for cut in other.cuts if cut not in self.cuts]
        return Tree(self.hosts, ascending_cuts([*cuts, *others]))

    def __le__(self, other):
        check_alike(self, other)
        return all([cut in other.cuts for cut in self.cuts])

    def __lt__(self, other):
        return self <= other and len(self.cuts) < len(other.cuts)

    def __ge__(self, other):
        check_alike(self, other)
        return all([cut in self.cuts for cut in other.cuts])

    def __gt__(self, other):
        return self >= other and len(self.cuts) > len(other.cuts)

    def only(self, hosts):
        """The tree of some of the hosts, with what that leaves of the cuts."""
        names = hosts_of(hosts, self.MOST)
        for name in names:
            check_host(self.hosts, name)
        cuts = [cut.only(names) for cut in self.cuts]
        return Tree(names, [cut for cut in cuts if cut is not None])

    def renamed(self, names):
        """The tree with other names, a dict from just its hosts."""
        if not isinstance(names, dict) or len(names) != len(self.hosts):
            raise BadNames(names)
        if not all([host in names for host in self.hosts]) or not are_names(list(names.values())):
            raise BadNames(names)
        cuts = [renamed_cut(cut, names) for cut in self.cuts]
        return Tree([names[host] for host in self.hosts], cuts)

    def home(self, host):
        """The switch of a host in the drawn tree."""
        check_host(self.hosts, host)
        return switch_over(self.cuts, (host,))

    @property
    def links(self):
        """The links of the drawn tree, ascending, the lesser switch first."""
        ups = ups_of(self.cuts)
        return tuple(sorted(set([in_order(at + 1, up) for at, up in enumerate(ups)])))

    def way(self, one, other):
        """The switches of the drawn tree from the home of one host to that of another one."""
        ups = ups_of(self.cuts)
        rising = way_up(ups, self.home(one))
        falling = way_up(ups, self.home(other))
        top = [switch for switch in rising if switch in falling][0]
        back = falling[:falling.index(top)]
        return tuple(rising[:rising.index(top) + 1] + back[::-1])

    def __str__(self):
        return str(drawn_text(self))


def check_cuts(hosts, cuts):
    """Raises what is wrong with any value as the cuts of a tree with these hosts."""
    if not isinstance(cuts, (list, tuple)):
        raise BadTree(None)
    for at, cut in enumerate(cuts):
        if not isinstance(cut, Cut) or cut.hosts != hosts:
            raise BadTree(at)
    crossing = first_crossing(cuts)
    if crossing is not None:
        raise Crossed(crossing[0], crossing[1])


def check_alike(tree, other):
    """Raises Unlike() unless any value is a tree with the hosts of this one."""
    if not isinstance(other, Tree) or tree.hosts != other.hosts:
        raise Unlike()


def marks_by(hosts, cuts):
    """For each host a number with a bit for each cut that has it on its far side."""
    marks = {host: 0 for host in hosts}
    for at, cut in enumerate(cuts):
        for host in cut.far:
            marks[host] = marks[host] | (1 << at)
    return marks


def renamed_cut(cut, names):
    """The cut with other names, told by a dict."""
    return Cut([names[host] for host in cut.near], [names[host] for host in cut.far])


def switch_over(cuts, hosts):
    """The switch of the cut of a tree with the fewest hosts on a far side that has these hosts and more,
    or 0. The hosts are one host, or a far side: then sides that share a host lie in one another."""
    switch = 0
    fewest = 0
    for at, cut in enumerate(cuts):
        if hosts[0] in cut.far and len(cut.far) > len(hosts):
            if switch == 0 or len(cut.far) < fewest:
                switch = at + 1
                fewest = len(cut.far)
    return switch


def ups_of(cuts):
    """For the switch of each cut the next one towards switch 0."""
    return [switch_over(cuts, cut.far) for cut in cuts]


def in_order(one, other):
    """The pair of two switches, the lesser one first."""
    return (one, other) if one < other else (other, one)


def way_up(ups, switch):
    """The switches from one of them to switch 0."""
    way = [switch]
    while way[-1] != 0:
        way.append(ups[way[-1] - 1])
    return way


def drawn_text(tree):
    """The text of a tree."""
    homes = {host: switch_over(tree.cuts, (host,)) for host in tree.hosts}
    return group_text(tree, homes, ups_of(tree.cuts), 0)


def group_text(tree, homes, ups, switch):
    """The text of a switch: its hosts, and the groups behind its links, in the order of their least hosts."""
    told = {host: host for host in tree.hosts if homes[host] == switch}
    for at, cut in enumerate(tree.cuts):
        if ups[at] == switch:
            told[cut.far[0]] = f"({group_text(tree, homes, ups, at + 1)})"
    return " ".join([told[host] for host in tree.hosts if host in told])


def groups_told(text):
    """The words of any value that can be the text of a tree, and for each pair of parentheses the words in it."""
    if not isinstance(text, str):
        raise BadText(0, 0)
    words = []
    groups = []
    starts = []
    for sign in text.replace("(", "( ").replace(")", " )").split(" "):
        if sign == "(":
            starts.append(len(words))
        elif sign == ")" and starts:
            groups.append(words[starts.pop():])
        else:
            words.append(sign)
    return (words, groups)


def cut_behind(hosts, group):
    """The cut between a group of some hosts and the others."""
    return Cut([host for host in hosts if host not in group], group)


def all_trees(hosts):
    """All trees of some hosts, by the number of their cuts, then by the cuts."""
    names = hosts_of(hosts, 7)
    rows = [((), all_cuts(names))]
    while rows:
        for cuts, _ in rows:
            yield Tree(names, cuts)
        rows = longer_rows(rows)


def longer_rows(rows):
    """The rows of cuts with a cut more, in order. Beside each row of cuts stand the cuts that can follow:
    those behind its last one that cross none of it."""
    longer = []
    for cuts, behind in rows:
        for at, cut in enumerate(behind):
            left = [other for other in behind[at + 1:] if not cut.crosses(other)]
            longer.append(((*cuts, cut), left))
    return longer


def all_cuts(hosts):
    """All cuts of an ascending tuple of hosts, ascending."""
    others = hosts[1:]
    cuts = []
    for number in range(1 << len(others)):
        far = [host for at, host in enumerate(others) if (number >> at) & 1 == 1]
        if 2 <= len(far) <= len(hosts) - 2:
            cuts.append(cut_behind(hosts, far))
    return ascending_cuts(cuts)


def count_trees(n, cuts=None):
    """How many trees n hosts have, with so many cuts or with any number of them."""
    if not is_whole(n) or not 1 <= n <= 60:
        raise BadNumber(n)
    if cuts is not None and (not is_whole(cuts) or cuts < 0):
        raise BadNumber(cuts)
    counts = [1]
    for many in range(4, n + 1):
        counts = counts_with(counts, many)
    if cuts is None:
        return sum(counts)
    return counts[cuts] if cuts < len(counts) else 0


def counts_with(counts, many):
    """How many trees there are of so many hosts, by the number of cuts, from the counts of one host less."""
    # The last host hangs on a switch, or on a new one that parts a link or the way of another host to its home.
    same = [*counts, 0]
    fewer = [0, *counts]
    return [(k + 1) * same[k] + (many + k - 2) * fewer[k] for k in range(len(same))]
