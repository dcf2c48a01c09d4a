"""Cuts: hosts parted into two sides."""

from seenframes.checks import check_host
from seenframes.errors import BadCut, BadText, Unlike
from seenframes.names import are_names, ascending


class Cut:
    """Some hosts, parted into two sides of at least two hosts each."""

    def __init__(self, one, other):
        if not is_side(one):
            raise BadCut("one")
        if not is_side(other):
            raise BadCut("other")
        self.hosts = ascending([*one, *other])
        if len(self.hosts) < len(one) + len(other):
            raise BadCut("other")
        sides = [ascending(one), ascending(other)]
        near_at = 0 if self.hosts[0] == sides[0][0] else 1
        self.near = sides[near_at]
        self.far = sides[1 - near_at]

    @classmethod
    def read(cls, text):
        """The cut with just this text."""
        sides = sides_told(text, " | ")
        try:
            cut = cls(sides[0], sides[1])
        except BadCut:
            raise BadText(0, 0) from None
        if str(cut) != text:
            raise BadText(0, 0)
        return cut

    def makes(self, parting):
        """Whether the cut has one pair of a parting on each side."""
        for host in parting.four:
            check_host(self.hosts, host)
        one, other = parting.pairs
        are_far = [host in self.far for host in [*one, *other]]
        return are_far in ([False, False, True, True], [True, True, False, False])

    def crosses(self, other):
        """Whether each side has a host in common with each side of another cut."""
        if not isinstance(other, Cut) or self.hosts != other.hosts:
            raise Unlike()
        return do_cross(self, other)

    def only(self, hosts):
        """The cut of some of the hosts, by its sides; None if that leaves a side with less than two."""
        near = [host for host in self.near if host in hosts]
        far = [host for host in self.far if host in hosts]
        if len(near) < 2 or len(far) < 2:
            return None
        return Cut(near, far)

    def __eq__(self, other):
        if not isinstance(other, Cut):
            return False
        return self.near == other.near and self.far == other.far

    def __lt__(self, other):
        if not isinstance(other, Cut):
            return NotImplemented
        return self.far < other.far

    def __le__(self, other):
        if not isinstance(other, Cut):
            return NotImplemented
        return self.far <= other.far

    def __gt__(self, other):
        if not isinstance(other, Cut):
            return NotImplemented
        return self.far > other.far

    def __ge__(self, other):
        if not isinstance(other, Cut):
            return NotImplemented
        return self.far >= other.far

    def __str__(self):
        return f"{' '.join(self.near)} | {' '.join(self.far)}"


def is_side(value):
    """Whether any value can be a side of a cut."""
    return are_names(value) and len(value) >= 2


def sides_told(text, between):
    """The two lists of words that any value tells, if it is a text with this between them."""
    if not isinstance(text, str) or text.count(between) != 1:
        raise BadText(0, 0)
    one, other = text.split(between)
    return (one.split(" "), other.split(" "))


def do_cross(one, other):
    """Whether two cuts of the same hosts cross. Their near sides always share a host: the least one of all."""
    shared = len(set(one.far) & set(other.far))
    return 0 < shared < min(len(one.far), len(other.far))


def ascending_cuts(cuts):
    """The ascending tuple of some cuts of the same hosts."""
    by_far = {cut.far: cut for cut in cuts}
    return tuple([by_far[far] for far in sorted(set([cut.far for cut in cuts]))])


def first_crossing(cuts):
    """The first two cuts that cross, of a list or tuple of cuts of the same hosts; None if there are none."""
    # A cut that stands twice crosses nothing that its first place does not. Without it the rows that are
    # gone through in vain are no more than the cuts of a tree.
    firsts = {}
    for cut in cuts:
        if cut.far not in firsts:
            firsts[cut.far] = cut
    unlike = list(firsts.values())
    for at, one in enumerate(unlike):
        for other in unlike[at + 1:]:
            if do_cross(one, other):
                return (one, other)
    return None
