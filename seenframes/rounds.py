"""Rounds: a row of frames that is sent again and again."""

from seenframes.checks import check_host, is_whole
from seenframes.errors import BadGround, BadHistory, BadNumber
from seenframes.frames import History
from seenframes.plays import Play
from seenframes.tables import Table
from seenframes.trees import Tree
from seenframes.webs import Web


class Rounds:
    """A row of frames that is sent again and again, from the beginning. All rounds from round 1 on show the same."""

    def __init__(self, ground, history):
        if not isinstance(ground, (Web, Tree, Table)):
            raise BadGround(ground)
        if not isinstance(history, History):
            raise BadHistory(None)
        self._play = Play(ground.tree if isinstance(ground, Web) else ground)
        self._opening = self._play.play(history)
        self._later = self._play.play(history)

    @property
    def opening(self):
        """The tuple of the sights of round 0."""
        return self._opening

    @property
    def later(self):
        """The tuple of the sights of each later round."""
        return self._later

    def outlook(self):
        """The outlook behind each round."""
        return self._play.outlook()

    def shown_in(self, k):
        """The tuple of the sights of a round."""
        check_number(k)
        return self.opening if k == 0 else self.later

    def count(self, host, k):
        """How many frames a host sees in the first k rounds."""
        check_host(self._play.hosts, host)
        check_number(k)
        if k == 0:
            return 0
        return many_seen(self.opening, host) + (k - 1) * many_seen(self.later, host)

    def least(self, host, count):
        """The least number of rounds in which a host sees at least so many frames; None if there is none."""
        check_host(self._play.hosts, host)
        check_number(count)
        if count == 0:
            return 0
        behind = count - many_seen(self.opening, host)
        if behind <= 0:
            return 1
        each_round = many_seen(self.later, host)
        if each_round == 0:
            return None
        return 1 + (behind + each_round - 1) // each_round


def check_number(value):
    """Raises BadNumber(value) unless any value is an integer from 0 to 10 ** 40."""
    if not is_whole(value) or not 0 <= value <= 10 ** 40:
        raise BadNumber(value)


def many_seen(sights, host):
    """How many of some sights have a host."""
    return len([sight for sight in sights if host in sight])
