"""The errors with which the program refuses what is handed in."""


class DanceError(ValueError):
    pass


class BadOrder(DanceError):
    pass


class BadDance(DanceError):
    pass


class BadMove(DanceError):
    pass


class Unlike(DanceError):
    pass


class BadText(DanceError):
    pass
