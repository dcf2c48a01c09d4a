"""Checks of arguments that several files share."""

from seenframes.errors import BadFour, NoHost
from seenframes.names import ascending


def is_whole(value):
    """Whether any value is an integer."""
    return isinstance(value, int) and not isinstance(value, bool)


def is_index(value, many):
    """Whether any value is an index, from 0 on, of a row of so many items."""
    return is_whole(value) and 0 <= value < many


def check_host(hosts, value):
    """Raises NoHost(value) unless any value is one of the hosts."""
    if value not in hosts:
        raise NoHost(value)


def four_in(hosts, value):
    """The ascending tuple of four unlike hosts, told as a list or tuple in any order."""
    if not isinstance(value, (list, tuple)) or len(value) != 4:
        raise BadFour(value)
    if not all([host in hosts for host in value]) or len(set(value)) != 4:
        raise BadFour(value)
    return ascending(value)


def four_asked(hosts, told):
    """The same of a tuple of any four values, where a value that is no host is told by itself."""
    for value in told:
        check_host(hosts, value)
    return four_in(hosts, told)
