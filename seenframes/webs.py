"""Webs: hosts on switches, and links that make the switches one tree."""

from seenframes.checks import check_host, is_whole
from seenframes.cuts import Cut
from seenframes.errors import BadWeb, NoSwitch, TooMany
from seenframes.names import ascending, is_name
from seenframes.trees import Tree, in_order

# How a switch is needless, by the numbers of its hosts and of its links.
KINDS = {(0, 1): "end", (0, 2): "middle", (1, 1): "lone"}


class Web:
    """Switches, links between them, and hosts on them."""

    def __init__(self, links, places):
        if not are_links(links):
            raise BadWeb("links")
        if not are_places(places):
            raise BadWeb("places")
        if len(places) > Tree.MOST:
            raise TooMany("hosts", Tree.MOST)
        if has_ring(links):
            raise BadWeb("ring")
        self._links = tuple(sorted(set([in_order(one, other) for one, other in links])))
        self._places = {host: places[host] for host in places}
        self.hosts = ascending(list(places))
        ends = [switch for link in self._links for switch in link]
        self.switches = tuple(sorted(set(ends + list(places.values()))))
        # Links without a ring join one switch more than there are links, or leave some apart.
        if len(self._links) < len(self.switches) - 1:
            raise BadWeb("apart")
        self._around = {switch: ends_behind(self._links, switch) for switch in self.switches}

    @classmethod
    def of_tree(cls, tree):
        """The web as which a tree is drawn."""
        return cls(tree.links, {host: tree.home(host) for host in tree.hosts})

    @property
    def links(self):
        """The links, ascending, the lesser switch first."""
        return self._links

    @property
    def places(self):
        """A new dict from the hosts to their homes."""
        return {host: self._places[host] for host in self.hosts}

    @property
    def tree(self):
        """The tree with the cuts that the links make."""
        cuts = [self.cut_of(one, other) for one, other in self._links]
        return Tree(self.hosts, [cut for cut in cuts if cut is not None])

    def home(self, host):
        """The switch of a host."""
        check_host(self.hosts, host)
        return self._places[host]

    def __eq__(self, other):
        if not isinstance(other, Web):
            return False
        return self._links == other.links and self._places == other.places

    def cut_of(self, one, other):
        """The cut that the link of two switches makes; None if it makes none."""
        if not is_switch(one) or not is_switch(other) or in_order(one, other) not in self._links:
            raise NoSwitch((one, other))
        reached = reached_from(self._around, one, other)
        here = [host for host in self.hosts if self._places[host] in reached]
        there = [host for host in self.hosts if self._places[host] not in reached]
        if len(here) < 2 or len(there) < 2:
            return None
        return Cut(here, there)

    def needless(self):
        """Pairs of each needless switch and its kind, ascending."""
        for switch in self.switches:
            kind = self._kind(switch)
            if kind is not None:
                yield (switch, kind)

    def without(self, switch):
        """The web without a needless switch."""
        if not is_switch(switch) or switch not in self.switches or self._kind(switch) is None:
            raise NoSwitch(switch)
        around = self._around[switch]
        links = [link for link in self._links if switch not in link]
        if self._kind(switch) == "middle":
            links = [*links, around]
        return Web(links, {host: around[0] if at == switch else at for host, at in self._places.items()})

    def lean(self):
        """The web without needless switches: as long as there are some, the least one is taken out."""
        web = self
        found = list(web.needless())
        while found:
            web = web.without(found[0][0])
            found = list(web.needless())
        return web

    def _kind(self, switch):
        """How a switch is needless; None if it is not."""
        hosts = [host for host in self.hosts if self._places[host] == switch]
        return KINDS.get((len(hosts), len(self._around[switch])))


def is_switch(value):
    """Whether any value can be a switch."""
    return is_whole(value) and 0 <= value <= 99


def are_links(value):
    """Whether any value is a list or tuple of pairs of unlike switches."""
    return isinstance(value, (list, tuple)) and all([is_link(link) for link in value])


def is_link(value):
    """Whether any value is a pair of unlike switches."""
    if not isinstance(value, tuple) or len(value) != 2:
        return False
    return is_switch(value[0]) and is_switch(value[1]) and value[0] != value[1]


def are_places(value):
    """Whether any value is a dict from at least one name to switches."""
    if not isinstance(value, dict) or len(value) == 0:
        return False
    return all([is_name(host) and is_switch(value[host]) for host in value])


def has_ring(links):
    """Whether some link joins two switches that the links ahead of it have joined."""
    marks = {switch: switch for link in links for switch in link}
    for one, other in links:
        mark = marks[other]
        if mark == marks[one]:
            return True
        for switch in list(marks):
            if marks[switch] == mark:
                marks[switch] = marks[one]
    return False


def ends_behind(links, switch):
    """The ascending tuple of the other ends of the links of a switch. The links are ascending pairs in order."""
    return tuple([one if one != switch else other for one, other in links if switch in (one, other)])


def reached_from(around, switch, barred):
    """A dict with the switches that are joined to a switch by ways that do not begin with one link of it."""
    reached = {switch: True}
    waiting = [end for end in around[switch] if end != barred]
    while waiting:
        end = waiting.pop()
        reached[end] = True
        for further in around[end]:
            if further not in reached:
                waiting.append(further)
    return reached
