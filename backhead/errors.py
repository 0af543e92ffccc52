"""The refusals, one class for each, all under HeadError and none under another."""


class HeadError(ValueError):
    pass


class NoMachine(HeadError):
    pass


class NoWord(HeadError):
    pass


class NoReader(HeadError):
    pass


class NoFate(HeadError):
    pass


class Unlike(HeadError):
    pass


class TooBig(HeadError):
    pass


class NoText(HeadError):
    pass
