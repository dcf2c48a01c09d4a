"""Clues: notes of hosts that all watch, and the answers that are left for each four of them."""

from seenframes.checks import four_in
from seenframes.notes import Notes
from seenframes.sieves import Sieve, answers_in, bit_of, does_strike, is_row, rows_with_seers, sieve_of
from seenframes.tables import Table


class Strike:
    """An answer of four hosts that is struck, and the reason."""

    def __init__(self, four, answer, reason):
        self.four = four
        self.answer = answer
        self.reason = reason

    def __eq__(self, other):
        if not isinstance(other, Strike):
            return False
        return self.four == other.four and self.answer == other.answer and self.reason == other.reason


class Clues(Notes):
    """Notes of hosts that all watch."""

    MOST = 9
    LONGEST = 30

    def __init__(self, hosts):
        super().__init__(hosts)
        self._sieved = None

    def left(self, four):
        """The tuple of the answers that are left at the end for four hosts, in order."""
        hosts = four_in(self.hosts, four)
        return tuple(answers_in(hosts, self.sieve().bits[hosts]))

    def is_barred(self):
        """Whether some four hosts have no answer left, or a note cannot be by itself."""
        return self.sieve().barred

    def told(self):
        """Pairs of each four with one answer left, and this answer, ascending."""
        pairs = self.sieve().settled()
        for four, answer in pairs:
            yield (four, answer)

    def rebuilt(self):
        """The tree with the answers that are left, if each four has one; None otherwise."""
        sieve = self.sieve()
        table = Table(self.hosts)
        for four, answer in sieve.settled():
            table[four] = answer
        return table.rebuilt() if len(sieve.settled()) == len(sieve.bits) else None

    def strikes(self):
        """The tuple of the Strikes that lead to the end."""
        return tuple([Strike(four, answers_in(four, bit)[0], reason) for four, bit, reason in self.sieve().struck])

    def sieve(self):
        """The sieve of the notes, at the end."""
        # Many questions are asked behind the same notes: it is told once for them.
        notes = self.state[1]
        if self._sieved is None or self._sieved[0] != notes:
            self._sieved = (notes, sieve_of(self.hosts, notes))
        return self._sieved[1]

    def blank(self):
        """Clues of the same hosts without notes."""
        return Clues(self.hosts)


def shows_strikes(clues, value):
    """Whether any value is a tuple of Strikes, each of which strikes an answer that those ahead of it have left."""
    if not isinstance(value, tuple):
        return False
    sieve = Sieve(clues.hosts)
    rows = rows_with_seers(clues.state[1])
    for strike in value:
        if not isinstance(strike, Strike) or not is_row(clues.hosts, strike.four, 4):
            return False
        four = strike.four
        bit = bit_of(four, strike.answer)
        if sieve.bits[four] & bit == 0 or not does_strike(sieve, rows, four, bit, strike.reason):
            return False
        sieve.strike(four, bit, strike.reason)
    return True
