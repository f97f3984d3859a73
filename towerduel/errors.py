"""The errors of this package."""


class DuelError(ValueError):
    """Above all errors of this package."""


class ShapeError(DuelError):
    """A duel that is none; part is "states", "letters" or "moves"."""

    def __init__(self, part):
        super().__init__(f"wrong {part}")
        self.part = part


class NotationError(DuelError):
    """A text that tells no duel or no match; line is the number of the first line at fault."""

    def __init__(self, line):
        super().__init__(f"fault in line {line}")
        self.line = line


class MatchError(DuelError):
    """What a match or a player can't do; why is "over", "move" or "lost"."""

    def __init__(self, why):
        super().__init__(f"not in this match: {why}")
        self.why = why


class WorkshopError(DuelError):
    """What a workshop can't do; why is "nothing to undo" or "nothing to make again"."""

    def __init__(self, why):
        super().__init__(f"not in this workshop: {why}")
        self.why = why
