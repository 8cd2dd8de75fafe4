"""The refusals: each stands straight under TrayError, none under another one."""


class TrayError(ValueError):
    pass


class NoStep(TrayError):
    pass


class NoClerks(TrayError):
    pass


class NoProgram(TrayError):
    def __init__(self, clerk, place):
        self.clerk = clerk
        self.place = place


class NoKind(TrayError):
    pass


class NoMove(TrayError):
    pass


class Waiting(TrayError):
    def __init__(self, clerk):
        self.clerk = clerk


class Unlike(TrayError):
    def __init__(self, deed):
        self.deed = deed


class NoText(TrayError):
    pass


class NoLine(TrayError):
    pass
