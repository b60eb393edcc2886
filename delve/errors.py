"""The refusals: one class each, all straight under DelveError."""


class DelveError(ValueError):
    pass


class NoCellar(DelveError):
    pass


class NoDeed(DelveError):
    def __init__(self, stand, deed):
        DelveError.__init__(self, f"the deed {deed!r} can't be done at {stand!r}")
        self.stand = stand
        self.deed = deed


class Wide(DelveError):
    pass


class Shut(DelveError):
    def __init__(self, stand):
        DelveError.__init__(self, f"nothing leads from {stand!r} to the end")
        self.stand = stand


class NoDeal(DelveError):
    pass


class TooMany(DelveError):
    pass


class NoPlan(DelveError):
    pass


class NoText(DelveError):
    def __init__(self, line):
        DelveError.__init__(self, f"no cellar's text, at line {line}")
        self.line = line


class NoRow(DelveError):
    pass
