"""The refusals: one error class for each, all straight under ShardError."""


# The act is the number of the plan's act that is refused, None where no act is.
class ShardError(ValueError):
    def __init__(self, act):
        ValueError.__init__(self, act)
        self.act = act


class NoQuestion(ShardError):
    pass


class NoTable(ShardError):
    pass


class NoColumn(ShardError):
    pass


class NoKind(ShardError):
    pass


class Twice(ShardError):
    pass


class TooWide(ShardError):
    pass


class BadTown(ShardError):
    pass


class NoPlan(ShardError):
    pass


class NoHouse(ShardError):
    pass


class Unsound(ShardError):
    pass


class NotReady(ShardError):
    pass


class NotEnded(ShardError):
    pass


class NoRow(ShardError):
    pass


class NoSpan(ShardError):
    pass


class Busy(ShardError):
    pass


class NoMove(ShardError):
    pass


class NotYet(ShardError):
    pass


class NoWords(ShardError):
    pass
