"""The refusals of the program, one class for each."""


class LockError(ValueError):
    pass


class BadFlight(LockError):
    pass


class NoGate(LockError):
    pass


class NoFall(LockError):
    pass


class NoBoat(LockError):
    pass


class NotFirst(LockError):
    pass


class Shut(LockError):
    pass


class Occupied(LockError):
    pass


class BadText(LockError):
    pass
