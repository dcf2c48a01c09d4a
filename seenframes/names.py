"""Names of hosts, and the fours and fives of some hosts."""

from seenframes.errors import BadHosts, TooMany


def is_name(value):
    """Whether any value is a name."""
    if not isinstance(value, str) or not 1 <= len(value) <= 8:
        return False
    return value.isascii() and value.isalpha() and value.islower()


def are_names(value):
    """Whether any value is a list or tuple of unlike names."""
    if not isinstance(value, (list, tuple)) or not all([is_name(name) for name in value]):
        return False
    return len(set(value)) == len(value)


def ascending(names):
    """The ascending tuple of some names."""
    return tuple(sorted(set(names)))


def hosts_of(values, most=40):
    """The ascending tuple of some names, of which there are no two alike and not too many."""
    if not isinstance(values, (list, tuple)) or len(values) == 0:
        raise BadHosts(None)
    known = {}
    for at, value in enumerate(values):
        if not is_name(value) or value in known:
            raise BadHosts(at)
        known[value] = True
    if len(values) > most:
        raise TooMany("hosts", most)
    return ascending(values)


def rows_in(hosts, many):
    """The list of all ascending tuples of so many of the hosts, ascending."""
    if many == 0:
        return [()]
    return [(host, *row) for at, host in enumerate(hosts) for row in rows_in(hosts[at + 1:], many - 1)]


def fours_in(hosts):
    """The list of all ascending tuples of four of the hosts, ascending: rows_in(hosts, 4), told at once."""
    many = len(hosts)
    return [(hosts[a], hosts[b], hosts[c], hosts[d]) for a in range(many) for b in range(a + 1, many)
            for c in range(b + 1, many) for d in range(c + 1, many)]


def fours_of(hosts):
    """All ascending tuples of four of the hosts, ascending."""
    many = len(hosts)
    for a in range(many):
        for b in range(a + 1, many):
            for c in range(b + 1, many):
                for d in range(c + 1, many):
                    yield (hosts[a], hosts[b], hosts[c], hosts[d])


def fives_of(hosts):
    """All ascending tuples of five of the hosts, ascending."""
    for at, host in enumerate(hosts):
        behind = hosts[at + 1:]
        for four in fours_of(behind):
            yield (host, *four)
