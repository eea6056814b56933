"""The refusals of the program, one class for each kind."""


class GuessError(ValueError):
    """Any refusal."""


class NoRun(GuessError):
    """A pattern stands for a run that is too long to be told."""


class NoGuesser(GuessError):
    """A text is no guesser's."""


class NoPattern(GuessError):
    """A text is no pattern's."""


class NoRow(GuessError):
    """A thing is no row that the desk answers."""


class NoName(GuessError):
    """The desk lacks a guesser of that name."""
