"""What the program refuses with."""


class LeftError(ValueError):
    pass


class BadRow(LeftError):
    pass


class BadKinds(LeftError):
    pass


class BadMany(LeftError):
    pass
