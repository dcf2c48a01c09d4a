"""Networks: live webs, whose switches note where the senders of frames lie."""

from seenframes.checks import check_host
from seenframes.errors import BadGround, NoSwitch
from seenframes.names import ascending
from seenframes.players import Player
from seenframes.trees import Tree
from seenframes.webs import Web, is_switch


class Network(Player):
    """A live network. Known are, for each host that has sent, the ports of the switches that know one."""

    def __init__(self, ground):
        if not isinstance(ground, (Web, Tree)):
            raise BadGround(ground)
        super().__init__(Web.of_tree(ground) if isinstance(ground, Tree) else ground)

    @property
    def web(self):
        """The web of the network."""
        return self.basis

    def knowers(self, host):
        """The switches that know a port of a host, ascending."""
        check_host(self.hosts, host)
        return tuple(sorted(set(list(self.known_now().get(host, {})))))

    def port(self, switch, host):
        """The port of a host that a switch knows: the next switch, or the host at its home; None if it knows none."""
        if not is_switch(switch) or switch not in self.basis.around:
            raise NoSwitch(switch)
        check_host(self.hosts, host)
        return self.known_now().get(host, {}).get(switch)

    def blank(self):
        """A network of the same web without frames."""
        return Network(self.basis)

    def carry(self, known, sender, target):
        """The sight of a frame, and what is known behind it."""
        seen, came = flood(self.basis, known.get(target, {}), sender)
        older = known.get(sender, {})
        return (ascending(seen), {**known, sender: {**older, **came}})


def flood(web, ports, sender):
    """A list of who sees a frame of a host, and a dict from the switches that it comes to to the port by which it
    comes. The ports are those of its target that switches know."""
    came = {web.homes[sender]: sender}
    seen = []
    waiting = [web.homes[sender]]
    while waiting:
        switch = waiting.pop()
        ways = [*web.around[switch], *web.hung[switch]]
        if switch in ports:
            ways = [ports[switch]]
        # The port of a host has its name, the port of a link the switch at its other end.
        for way in ways:
            if way in web.homes:
                seen.append(way)
            elif way != came[switch]:
                came[way] = switch
                waiting.append(way)
    return ([host for host in seen if host != sender], came)
