"""The refusals of the program."""


class FlowError(ValueError):
    pass


class BadEvent(FlowError):
    pass


class BadSlack(FlowError):
    pass


class Broken(FlowError):
    pass


class BadStep(FlowError):
    def __init__(self, place):
        self.place = place


class BadLine(FlowError):
    def __init__(self, place):
        self.place = place


class BadKeep(FlowError):
    def __init__(self, place):
        self.place = place
