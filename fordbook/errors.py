"""What the program refuses with: one class for each kind of refusal, all under FordError."""


class FordError(ValueError):
    pass


class NoBoard(FordError):
    pass


class NoNet(FordError):
    pass


class NoPlace(FordError):
    pass


class NoRoad(FordError):
    pass


class NoTurn(FordError):
    pass


class NoText(FordError):
    pass


class NoRow(FordError):
    pass


class NoName(FordError):
    pass


class NoWindow(FordError):
    pass
