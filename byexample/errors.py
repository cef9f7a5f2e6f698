"""The refusals of the program, one class for each."""


class FitError(ValueError):
    pass


class NoProgram(FitError):
    pass


class NoNumber(FitError):
    pass


class NothingFits(FitError):
    pass


class Twice(FitError):
    pass


class NoExample(FitError):
    pass
