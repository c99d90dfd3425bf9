"""The refusals of the program: each one stands straight under NetError."""


class NetError(ValueError):
    pass


class TooMany(NetError):
    pass


class NoContact(NetError):
    pass


class NoBridge(NetError):
    pass


class NoPlace(NetError):
    pass


class NoTable(NetError):
    pass


class NoName(NetError):
    pass


class BadNote(NetError):
    pass
