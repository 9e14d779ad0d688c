"""The refusals of a net, one class each."""


class NetError(ValueError):
    pass


class NoPlace(NetError):
    pass


class NoPipe(NetError):
    pass


class SamePlace(NetError):
    pass


class TooMuch(NetError):
    pass


class NoNet(NetError):
    pass
