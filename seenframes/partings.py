"""Partings: four hosts put into two pairs."""

from seenframes.cuts import sides_told
from seenframes.errors import BadFour, BadParting, BadText, NoHost
from seenframes.names import are_names, ascending, fours_of


class Parting:
    """Four hosts, put into two pairs."""

    def __init__(self, one, other):
        if not is_couple(one):
            raise BadParting("one")
        if not is_couple(other):
            raise BadParting("other")
        self.four = ascending([*one, *other])
        if len(self.four) < 4:
            raise BadParting("other")
        pairs = [ascending(one), ascending(other)]
        first_at = 0 if self.four[0] == pairs[0][0] else 1
        self.pairs = (pairs[first_at], pairs[1 - first_at])

    @classmethod
    def read(cls, text):
        """The parting with just this text."""
        pairs = sides_told(text, " / ")
        try:
            parting = cls(pairs[0], pairs[1])
        except BadParting:
            raise BadText(0, 0) from None
        if str(parting) != text:
            raise BadText(0, 0)
        return parting

    def mate(self, host):
        """The other host of the pair of a host."""
        for one, other in self.pairs:
            if host == one:
                return other
            if host == other:
                return one
        raise NoHost(host)

    def __eq__(self, other):
        if not isinstance(other, Parting):
            return False
        return self.pairs == other.pairs

    def __lt__(self, other):
        if not isinstance(other, Parting):
            return NotImplemented
        return (self.four, self.pairs) < (other.four, other.pairs)

    def __le__(self, other):
        if not isinstance(other, Parting):
            return NotImplemented
        return (self.four, self.pairs) <= (other.four, other.pairs)

    def __gt__(self, other):
        if not isinstance(other, Parting):
            return NotImplemented
        return (self.four, self.pairs) > (other.four, other.pairs)

    def __ge__(self, other):
        if not isinstance(other, Parting):
            return NotImplemented
        return (self.four, self.pairs) >= (other.four, other.pairs)

    def __str__(self):
        return f"{' '.join(self.pairs[0])} / {' '.join(self.pairs[1])}"


def is_couple(value):
    """Whether any value can be a pair of a parting."""
    return are_names(value) and len(value) == 2


def answers_of(four):
    """The tuple of the answers of four hosts, in order."""
    if not are_names(four) or len(four) != 4:
        raise BadFour(four)
    a, b, c, d = ascending(four)
    return (None, Parting((a, b), (c, d)), Parting((a, c), (b, d)), Parting((a, d), (b, c)))


def answer_marked(marks, four):
    """The answer of a tree for an ascending tuple of four of its hosts. The marks of a host are a number
    with a bit for each cut of the tree that has the host on its far side."""
    a, b, c, d = four
    if parts(marks, a, b, c, d):
        return Parting((a, b), (c, d))
    if parts(marks, a, c, b, d):
        return Parting((a, c), (b, d))
    if parts(marks, a, d, b, c):
        return Parting((a, d), (b, c))
    return None


def parts(marks, a, b, c, d):
    """Whether some cut has a and b on one side and c and d on the other one."""
    alike = ~((marks[a] ^ marks[b]) | (marks[c] ^ marks[d]))
    return ((marks[a] ^ marks[c]) & alike) != 0


def partings_of(tree):
    """All partings that hold in a tree, ascending."""
    for four in fours_of(tree.hosts):
        answer = answer_marked(tree.marks, four)
        if answer is not None:
            yield answer
