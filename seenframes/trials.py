"""Trials: blocks behind which an object is as it was."""


class Trial:
    """What a `with` statement takes to give an object back as it was. The object keeps all that changes of it
    in its state, and its twin shares none of it."""

    def __init__(self, owner):
        self._owner = owner
        self._kept = None

    def __enter__(self):
        self._kept = self._owner.twin().state
        return self._owner

    def __exit__(self, kind, value, trace):
        owner = self._owner
        owner.state = self._kept
