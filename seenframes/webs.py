"""Webs: hosts on switches, and links that make the switches one tree."""

from seenframes.checks import check_host, is_whole
from seenframes.cuts import Cut
from seenframes.errors import BadWeb, NoSwitch, TooMany
from seenframes.names import ascending, is_name
from seenframes.trees import Tree, cut_behind

# How a switch is needless, by the numbers of its hosts and of its links.
KINDS = {(0, 1): "end", (0, 2): "middle", (1, 1): "lone"}


class Web:
    """Switches, links between them, and hosts on them. For each switch, ascending, `around` has the ascending tuple
    of the switches next to it, and `hung` that of its hosts."""

    def __init__(self, links, places):
        if not are_links(links):
            raise BadWeb("links")
        if not are_places(places):
            raise BadWeb("places")
        if len(places) > Tree.MOST:
            raise TooMany("hosts", Tree.MOST)
        if has_ring(links):
            raise BadWeb("ring")
        self.hosts = ascending(list(places))
        self.homes = {host: places[host] for host in self.hosts}
        self.around = next_switches(links, list(self.homes.values()))
        # Links without a ring join one switch more than there are links, or leave some apart.
        if len(links) < len(self.around) - 1:
            raise BadWeb("apart")
        self.switches = tuple(self.around)
        self.hung = hosts_at(self.switches, self.homes)

    @classmethod
    def of_tree(cls, tree):
        """The web as which a tree is drawn."""
        return cls(tree.links, {host: tree.home(host) for host in tree.hosts})

    @property
    def links(self):
        """The links, ascending, the lesser switch first."""
        return tuple([(one, other) for one in self.switches for other in self.around[one] if one < other])

    @property
    def places(self):
        """A new dict from the hosts to their homes."""
        return {host: self.homes[host] for host in self.hosts}

    @property
    def tree(self):
        """The tree with the cuts that the links make."""
        groups = [group for group in groups_behind(self.around, self.hung) if 2 <= len(group) <= len(self.hosts) - 2]
        return Tree(self.hosts, [cut_behind(self.hosts, group) for group in groups])

    def home(self, host):
        """The switch of a host."""
        check_host(self.hosts, host)
        return self.homes[host]

    def __eq__(self, other):
        if not isinstance(other, Web):
            return False
        return self.around == other.around and self.homes == other.homes

    def cut_of(self, one, other):
        """The cut that the link of two switches makes; None if it makes none."""
        if not is_switch(one) or not is_switch(other) or other not in self.around.get(one, ()):
            raise NoSwitch((one, other))
        reached = reached_from(self.around, one, other)
        here = [host for host in self.hosts if self.homes[host] in reached]
        there = [host for host in self.hosts if self.homes[host] not in reached]
        if len(here) < 2 or len(there) < 2:
            return None
        return Cut(here, there)

    def needless(self):
        """Pairs of each needless switch and its kind, ascending."""
        for switch in self.switches:
            kind = kind_of(self.around, self.hung, switch)
            if kind is not None:
                yield (switch, kind)

    def without(self, switch):
        """The web without a needless switch."""
        if not is_switch(switch) or switch not in self.around or kind_of(self.around, self.hung, switch) is None:
            raise NoSwitch(switch)
        around = dict(self.around)
        hung = dict(self.hung)
        take_out(around, hung, switch)
        return web_with(self.hosts, around, hung)

    def lean(self):
        """The web without needless switches: as long as there are some, the least one is taken out."""
        around = dict(self.around)
        hung = dict(self.hung)
        found = marks_of_needless(around, hung, self.switches)
        while found != 0:
            switch = (found & -found).bit_length() - 1
            ends = around[switch]
            take_out(around, hung, switch)
            # Of the other switches only those next to it can have become needless, or have become needed.
            stay = found & ~marks_of(ends) & ~marks_of((switch,))
            found = stay | marks_of_needless(around, hung, ends)
        return web_with(self.hosts, around, hung)


def is_switch(value):
    """Whether any value can be a switch."""
    return is_whole(value) and 0 <= value <= 99


def are_links(value):
    """Whether any value is a list or tuple of pairs of unlike switches."""
    return isinstance(value, (list, tuple)) and all([is_link(link) for link in value])


def is_link(value):
    """Whether any value is a pair of unlike switches."""
    if not isinstance(value, tuple) or len(value) != 2:
        return False
    return is_switch(value[0]) and is_switch(value[1]) and value[0] != value[1]


def are_places(value):
    """Whether any value is a dict from at least one name to switches."""
    if not isinstance(value, dict) or len(value) == 0:
        return False
    return all([is_name(host) and is_switch(value[host]) for host in value])


def has_ring(links):
    """Whether some link joins two switches that the links ahead of it have joined."""
    heads = {switch: switch for link in links for switch in link}
    for one, other in links:
        head = head_of(heads, one)
        tail = head_of(heads, other)
        if head == tail:
            return True
        heads[tail] = head
    return False


def head_of(heads, switch):
    """The switch at which the way from a switch, from head to head, ends. The way is made shorter."""
    while heads[switch] != switch:
        heads[switch] = heads[heads[switch]]
        switch = heads[switch]
    return switch


def next_switches(links, homes):
    """For each switch of links and homes, ascending, the ascending tuple of the switches next to it."""
    ends = [switch for link in links for switch in link]
    around = {switch: [] for switch in sorted(set(ends + homes))}
    for one, other in links:
        around[one].append(other)
        around[other].append(one)
    return {switch: tuple(sorted(set(around[switch]))) for switch in around}


def hosts_at(switches, homes):
    """For each switch the ascending tuple of its hosts. The homes have the hosts in order."""
    hung = {switch: () for switch in switches}
    for host, switch in homes.items():
        hung[switch] = (*hung[switch], host)
    return hung


def kind_of(around, hung, switch):
    """How a switch is needless; None if it is not."""
    return KINDS.get((len(hung[switch]), len(around[switch])))


def marks_of(switches):
    """A number with a bit for each of some switches."""
    return sum([1 << switch for switch in switches])


def marks_of_needless(around, hung, switches):
    """A number with a bit for each needless one of some switches."""
    return marks_of([switch for switch in switches if kind_of(around, hung, switch) is not None])


def take_out(around, hung, switch):
    """Takes a needless switch out of the switches next to each switch, and of the hosts of each."""
    ends = around.pop(switch)
    hosts = hung.pop(switch)
    # There is one switch next to an end and to a lone one, and there are two next to a middle one.
    for end in ends:
        left = [further for further in around[end] if further != switch]
        around[end] = tuple(sorted(set(left + [other for other in ends if other != end])))
        hung[end] = ascending([*hung[end], *hosts])


def groups_behind(around, hung):
    """The unlike ascending tuples of the hosts behind each switch, as one comes from the first switch."""
    first = list(around)[0]
    ups = {first: None}
    waiting = [first]
    while waiting:
        switch = waiting.pop()
        for end in around[switch]:
            if end not in ups:
                ups[end] = switch
                waiting.append(end)
    behind = {switch: hung[switch] for switch in ups}
    # A switch stands behind the one that leads to it: from the last one on, each has all that lies behind it.
    for switch in reversed(list(ups)):
        if switch != first:
            behind[ups[switch]] = (*behind[ups[switch]], *behind[switch])
    return list({ascending(hosts): True for hosts in behind.values()})


def web_with(hosts, around, hung):
    """The web of some hosts that has these switches. It is known to be one: nothing of it is checked again."""
    web = Web((), {hosts[0]: 0})
    web.hosts = hosts
    web.homes = {host: switch for switch in hung for host in hung[switch]}
    web.around = around
    web.switches = tuple(around)
    web.hung = hung
    return web


def reached_from(around, switch, barred):
    """A dict with the switches that are joined to a switch by ways that do not begin with one link of it."""
    reached = {switch: True}
    waiting = [end for end in around[switch] if end != barred]
    while waiting:
        end = waiting.pop()
        reached[end] = True
        for further in around[end]:
            if further not in reached:
                waiting.append(further)
    return reached
