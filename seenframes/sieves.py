"""Sieves: the answers that are left for each four of some hosts that all watch, and the rules that strike them."""

from seenframes.checks import is_index
from seenframes.names import ascending, fives_of, fours_in
from seenframes.partings import Parting, answers_of

# For each tree of five hosts its answers for the fours without the host 0, 1, 2, 3 and 4. An answer is told by a bit:
# 1 for None, 2, 4 and 8 for the partings in order.
FIVES = (
    (1, 1, 1, 1, 1), (2, 1, 1, 8, 8), (1, 8, 8, 8, 1), (1, 4, 4, 1, 8), (4, 1, 8, 1, 4), (1, 2, 1, 4, 4),
    (8, 1, 4, 4, 1), (8, 8, 1, 1, 2), (1, 1, 2, 2, 2), (4, 4, 1, 2, 1), (2, 2, 2, 1, 1), (2, 8, 8, 8, 8),
    (2, 4, 4, 8, 8), (2, 2, 2, 8, 8), (4, 8, 8, 8, 4), (8, 8, 8, 8, 2), (8, 4, 4, 4, 8), (4, 4, 4, 2, 8),
    (4, 2, 8, 4, 4), (4, 4, 8, 2, 4), (8, 2, 4, 4, 4), (2, 2, 2, 4, 4), (8, 8, 4, 4, 2), (8, 8, 2, 2, 2),
    (4, 4, 2, 2, 2), (2, 2, 2, 2, 2),
)


class Sieve:
    """For each four hosts a number with a bit for each answer that is left, and a row of what was struck so far: the
    four, the bit, and the reason of each strike."""

    def __init__(self, hosts):
        self.hosts = hosts
        self.bits = {four: 15 for four in fours_in(hosts)}
        self.struck = []
        self.barred = False

    def strike(self, four, bits, reason):
        """Strikes those of some answers of four hosts that are left."""
        for bit in (1, 2, 4, 8):
            if self.bits[four] & bits & bit != 0:
                self.bits[four] = self.bits[four] ^ bit
                self.struck.append((four, bit, reason))

    def bar(self, reason):
        """Strikes all answers."""
        self.barred = True
        for four in list(self.bits):
            self.strike(four, 15, reason)

    def emptied(self):
        """A list of the fours that have no answer left."""
        return [four for four in self.bits if self.bits[four] == 0]

    def settled(self):
        """A list of pairs of the fours that have one answer left, and these answers."""
        return [(four, answers_in(four, bits)[0]) for four, bits in self.bits.items() if bits in (1, 2, 4, 8)]


def answers_in(four, bits):
    """The list of the answers of four hosts that some bits tell, in order."""
    return [answer for at, answer in enumerate(answers_of(four)) if (bits >> at) & 1 == 1]


def bit_of(four, value):
    """The bit of any value as an answer of four hosts, 0 if it is none."""
    if value is None:
        return 1
    if not isinstance(value, Parting) or value.four != four:
        return 0
    return 1 << four.index(value.pairs[0][1])


def marked(a, h, c, s):
    """Four hosts, ascending, and the bit of the parting a h / c s."""
    four = ascending([a, h, c, s])
    mates = {a: h, h: a, c: s, s: c}
    return (four, 1 << four.index(mates[four[0]]))


def rows_with_seers(notes):
    """A list with, for each note, the sender and the target, who saw the frame, and the target's seers ahead of it."""
    seers = {}
    rows = []
    for frame, seen in notes:
        rows.append((frame.sender, frame.target, seen, seers.get(frame.target, ())))
        seers[frame.sender] = ascending([*seers.get(frame.sender, ()), *seen])
    return rows


def is_impossible(hosts, row):
    """Whether a note cannot be by itself."""
    sender, target, seen, seers = row
    if target is not None and target not in seen:
        return True
    if not seers:
        return len(seen) < len(hosts) - 1
    return len(seen) > 1 and (sender in seers or any([host in seers for host in seen]))


def sieve_of(hosts, notes):
    """The sieve of some notes when no rule strikes an answer any more."""
    sieve = Sieve(hosts)
    rows = rows_with_seers(notes)
    for at, row in enumerate(rows):
        if is_impossible(hosts, row):
            sieve.bar(("barred", at))
            return sieve
    strike_seen(sieve, rows)
    strike_on(sieve, rows)
    emptied = sieve.emptied()
    if emptied:
        sieve.bar(("barred", emptied[0]))
    return sieve


def strike_seen(sieve, rows):
    """Strikes what the rule of what was seen strikes."""
    for at, (sender, target, seen, seers) in enumerate(rows):
        for host in seen:
            for seer in seers:
                if host != target and seer not in (sender, host):
                    four, bit = marked(sender, host, target, seer)
                    sieve.strike(four, 15 ^ bit, ("seen", at, host, seer))


def strike_on(sieve, rows):
    """Strikes what the two rules strike that hang on what is left, until they strike nothing more, or some four
    hosts have no answer left."""
    unseen = [(at, host, choices_of(row, host)) for at, row in enumerate(rows) for host in sieve.hosts]
    unseen = [row for row in unseen if row[2]]
    fives = [(five, fours_without(five)) for five in fives_of(sieve.hosts)]
    kept = {}
    many = -1
    while many < len(sieve.struck) and not sieve.emptied():
        many = len(sieve.struck)
        strike_unseen(sieve, unseen)
        strike_fives(sieve, fives, kept)


def choices_of(row, host):
    """Where a host did not see a frame, and this tells that some parting does not hold: for each seer of the target
    the seer, and the four and the bit of its parting."""
    sender, target, seen, seers = row
    if host in seen or host in (sender, target) or host in seers or sender in seers:
        return []
    return [(seer, *marked(sender, host, target, seer)) for seer in seers]


def strike_unseen(sieve, unseen):
    """Strikes the parting of one seer where those of all others are sure to hold."""
    for at, host, choices in unseen:
        loose = [choice for choice in choices if sieve.bits[choice[1]] != choice[2]]
        if len(loose) < 2:
            # If none is loose, all partings are sure, and any one of them is struck: then no answer is left there.
            seer, four, bit = loose[0] if loose else choices[0]
            sieve.strike(four, bit, ("unseen", at, host, seer))


def fours_without(five):
    """The fours of five hosts: without the first host, without the second one, and so on."""
    a, b, c, d, e = five
    return ((b, c, d, e), (a, c, d, e), (a, b, d, e), (a, b, c, e), (a, b, c, d))


def strike_fives(sieve, fives, kept):
    """Strikes what no tree of some five hosts has. What is kept of five rows of bits is the same for all fives."""
    for five, fours in fives:
        bits = tuple([sieve.bits[four] for four in fours])
        if bits not in kept:
            kept[bits] = bits_of_trees(bits)
        if kept[bits] != bits:
            for at, four in enumerate(fours):
                sieve.strike(four, 15 ^ kept[bits][at], ("five", five))


def bits_of_trees(bits):
    """Of the bits that are left for the fours of five hosts, the tuple of those that trees of the five have."""
    one, two, three, four, five = bits
    left = [0, 0, 0, 0, 0]
    for row in FIVES:
        if row[0] & one and row[1] & two and row[2] & three and row[3] & four and row[4] & five:
            for at in range(5):
                left[at] = left[at] | row[at]
    return tuple(left)


def is_row(hosts, value, many):
    """Whether any value is an ascending tuple of so many of the hosts."""
    if not isinstance(value, tuple) or len(value) != many or not all([host in hosts for host in value]):
        return False
    return value == ascending(value)


def does_strike(sieve, rows, four, bit, reason):
    """Whether any value is a reason for which an answer that is left is struck now."""
    if not isinstance(reason, tuple) or len(reason) not in (2, 4):
        return False
    if len(reason) == 4:
        word, at, host, seer = reason
        if not is_index(at, len(rows)):
            return False
        if word == "seen":
            return is_seen_struck(rows[at], host, seer, (four, bit))
        return word == "unseen" and is_unseen_struck(sieve, rows[at], host, seer, (four, bit))
    word, place = reason
    if word == "five":
        return is_five_struck(sieve, place, four, bit)
    if word != "barred":
        return False
    if is_index(place, len(rows)):
        return is_impossible(sieve.hosts, rows[place])
    return is_row(sieve.hosts, place, 4) and sieve.bits[place] == 0


def is_seen_struck(row, host, seer, struck):
    """Whether a four and a bit are struck, as a host saw the frame of a note, by a seer of its target."""
    sender, target, seen, seers = row
    if host not in seen or host == target or seer not in seers or seer in (sender, host):
        return False
    four, bit = marked(sender, host, target, seer)
    return struck[0] == four and struck[1] != bit


def is_unseen_struck(sieve, row, host, seer, struck):
    """Whether a four and a bit are struck, as a host did not see the frame of a note, by a seer of its target."""
    if host not in sieve.hosts:
        return False
    choices = choices_of(row, host)
    if not all([sieve.bits[four] == bit for other, four, bit in choices if other != seer]):
        return False
    return struck in [(four, bit) for other, four, bit in choices if other == seer]


def is_five_struck(sieve, five, four, bit):
    """Whether no tree of any value as five hosts has an answer of four of them."""
    if not is_row(sieve.hosts, five, 5):
        return False
    fours = fours_without(five)
    if four not in fours:
        return False
    bits = tuple([sieve.bits[other] for other in fours])
    return bits_of_trees(bits)[fours.index(four)] & bit == 0
