"""The errors of the package."""


class SeenError(ValueError):
    """The base of all errors of the package."""


class BadInput(SeenError):
    """What was passed cannot stand."""


class Refused(SeenError):
    """What was asked cannot be done."""


class BadHosts(BadInput):
    """Hosts cannot stand: at is the index of the first wrong one, None where there is no row of them."""

    def __init__(self, at):
        self.at = at


class BadFrame(BadInput):
    """A frame cannot stand: part is what is wrong with it."""

    def __init__(self, part):
        self.part = part


class BadHistory(BadInput):
    """A row of frames cannot stand: at is the index of the first wrong one, None where there is no row."""

    def __init__(self, at):
        self.at = at


class BadIndex(BadInput):
    """The value is no index here."""

    def __init__(self, value):
        self.value = value


class BadCut(BadInput):
    """A cut cannot stand: part is the wrong side."""

    def __init__(self, part):
        self.part = part


class BadTree(BadInput):
    """The cuts of a tree cannot stand: at is the index of the first wrong one, None where there is no row."""

    def __init__(self, at):
        self.at = at


class BadFour(BadInput):
    """The value is not four hosts."""

    def __init__(self, value):
        self.value = value


class BadParting(BadInput):
    """A parting cannot stand: part is the wrong pair."""

    def __init__(self, part):
        self.part = part


class BadAnswer(BadInput):
    """The value is no answer for these four hosts."""

    def __init__(self, value):
        self.value = value


class BadWeb(BadInput):
    """A web cannot stand: part is what is wrong with it."""

    def __init__(self, part):
        self.part = part


class BadGround(BadInput):
    """The value is nothing that can be played on here."""

    def __init__(self, value):
        self.value = value


class BadNumber(BadInput):
    """The value is no number that can stand here."""

    def __init__(self, value):
        self.value = value


class BadSight(BadInput):
    """The value cannot be who saw a frame, or who watches."""

    def __init__(self, value):
        self.value = value


class BadNames(BadInput):
    """The value does not give each host a name of its own."""

    def __init__(self, value):
        self.value = value


class BadText(BadInput):
    """A text cannot stand: line and word are the place of the first wrong word."""

    def __init__(self, line, word):
        self.line = line
        self.word = word


class BadSay(BadInput):
    """A line for the desk cannot stand here: word is why."""

    def __init__(self, word):
        self.word = word


class NoHost(Refused):
    """There is no host with this name here."""

    def __init__(self, name):
        self.name = name


class NoSwitch(Refused):
    """The value tells no switch that is meant here."""

    def __init__(self, value):
        self.value = value


class Unlike(Refused):
    """Two things do not have the same hosts."""


class TooMany(Refused):
    """There is more of what than the most that can stand."""

    def __init__(self, what, most):
        self.what = what
        self.most = most


class Crossed(Refused):
    """Two cuts cross."""

    def __init__(self, one, other):
        self.one = one
        self.other = other


class Misfit(Refused):
    """No tree of these five hosts has their answers."""

    def __init__(self, five):
        self.five = five


class NothingFits(Refused):
    """No tree fits."""


class NoChange(Refused):
    """There is nothing to take back."""


class Begun(Refused):
    """There are notes already."""
