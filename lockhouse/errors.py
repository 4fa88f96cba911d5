"""The refusals of the program, one error class for each."""


class CanalError(ValueError):
    pass


class Short(CanalError):
    pass


class Against(CanalError):
    pass


class NotNow(CanalError):
    pass


class Full(CanalError):
    pass


class NoBoat(CanalError):
    pass


class BadRow(CanalError):
    pass


class BadNumber(CanalError):
    pass


class Twice(CanalError):
    pass


class Unknown(CanalError):
    pass


class TooMany(CanalError):
    pass


class NotLinked(CanalError):
    pass


class TooWide(CanalError):
    pass


class TooDry(CanalError):
    pass


class Torn(CanalError):
    pass
