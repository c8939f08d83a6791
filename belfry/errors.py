"""The refusals: one class for each, all of them straight under HouseError."""


class HouseError(ValueError):
    pass


# Those that tell a number leave the base's own making alone: Python keeps
# there what an error was made of, so that it can be copied from that.
class BadWord(HouseError):
    def __init__(self, at):
        self.at = at


class NoPlace(HouseError):
    pass


class Late(HouseError):
    pass


class Twice(HouseError):
    pass


class Unknown(HouseError):
    pass


class NoStretch(HouseError):
    pass


class BadLine(HouseError):
    def __init__(self, at):
        self.at = at


class BadTree(HouseError):
    def __init__(self, row, at):
        self.row = row
        self.at = at
