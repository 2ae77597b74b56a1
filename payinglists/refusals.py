"""The refusals that a call may meet, an error class for each."""


class NoProgram(Exception):
    pass


class NoFunction(Exception):
    pass


class NoValues(Exception):
    pass


class NoNode(Exception):
    pass


class OutOfRange(Exception):
    pass
