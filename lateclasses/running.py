"""Runs, and what they report."""


class Report:
    """What a run told, how it ended, how many instructions it performed and what it loaded. It never changes."""

    def __init__(self, told, ending, steps, loads):
        self._told = tuple(told)
        self._ending = tuple(ending)
        self._steps = steps
        self._loads = tuple(loads)

    @property
    def told(self):
        """What was told, as a list of texts."""
        return list(self._told)

    @property
    def ending(self):
        """How the run ended, as a tuple."""
        return self._ending

    @property
    def steps(self):
        """The number of instructions that were performed."""
        return self._steps

    @property
    def loads(self):
        """The identities that the run loaded, as a list."""
        return list(self._loads)

    def parts(self):
        """Return the tuple of all four, with tuples instead of lists."""
        return (self._told, self._ending, self._steps, self._loads)

    def __eq__(self, other):
        return (isinstance(other, Report) and self._told == other._told and self._ending == other._ending
                and self._steps == other._steps and self._loads == other._loads)
