"""The refusals. Each has a class of its own, so that one can be taken without another one."""


class RingError(ValueError):
    pass


class NoDeed(RingError):
    pass


class Full(RingError):
    pass


class NoName(RingError):
    pass


class NoTask(RingError):
    pass


class NoRow(RingError):
    pass
