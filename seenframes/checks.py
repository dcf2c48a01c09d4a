"""Checks of arguments that several files share."""

from seenframes.errors import NoHost


def is_whole(value):
    """Whether any value is an integer."""
    return isinstance(value, int) and not isinstance(value, bool)


def is_index(value, many):
    """Whether any value is an index, from 0 on, of a row of so many items."""
    return is_whole(value) and 0 <= value < many


def check_host(hosts, value):
    """Raises NoHost(value) unless any value is one of the hosts."""
    if value not in hosts:
        raise NoHost(value)
