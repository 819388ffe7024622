"""The errors of the package, each with its parameters as attributes."""


class PegError(Exception):
    """What all errors of the package have in common."""


class BadWall(PegError):
    """A value is no wall."""

    def __init__(self, thing):
        self.thing = thing


class BadSet(PegError):
    """A value is no set of pegs that may stand there."""

    def __init__(self, thing):
        self.thing = thing


class BadCord(PegError):
    """A value is no cord."""

    def __init__(self, thing):
        self.thing = thing


class BadSlide(PegError):
    """A value is no slide that can be done."""

    def __init__(self, thing):
        self.thing = thing


class BadRule(PegError):
    """A value is no rule."""

    def __init__(self, thing):
        self.thing = thing


class BadTable(PegError):
    """A value is no table."""

    def __init__(self, thing):
        self.thing = thing


class BadOrder(PegError):
    """A value is no order of pegs."""

    def __init__(self, thing):
        self.thing = thing


class BadRow(PegError):
    """A value is no row of pegs."""

    def __init__(self, thing):
        self.thing = thing


class BadNumber(PegError):
    """A value is no number that may stand there."""

    def __init__(self, thing):
        self.thing = thing


class BadChange(PegError):
    """A value is no change that may stand there."""

    def __init__(self, thing):
        self.thing = thing


class BadGallery(PegError):
    """A value is no gallery."""

    def __init__(self, thing):
        self.thing = thing


class BadPicture(PegError):
    """A value is no picture of the gallery."""

    def __init__(self, thing):
        self.thing = thing


class BadReports(PegError):
    """A value is no reports of the wall."""

    def __init__(self, thing):
        self.thing = thing


class NotOnWall(PegError):
    """No cord of the wall has the rule, as the certificate shows."""

    def __init__(self, certificate):
        self.certificate = certificate


class Quarrel(PegError):
    """No rule fits the reports, as the certificate shows."""

    def __init__(self, certificate):
        self.certificate = certificate


class BadName(PegError):
    """A value can be no name of a cord."""

    def __init__(self, name):
        self.name = name


class NoName(PegError):
    """A value is no name of the room."""

    def __init__(self, name):
        self.name = name


class Here(PegError):
    """The room has the name already."""

    def __init__(self, name):
        self.name = name


class BadPromise(PegError):
    """A value is no promise that may stand there."""

    def __init__(self, thing):
        self.thing = thing


class Broken(PegError):
    """A promise would not hold, as the certificate shows."""

    def __init__(self, promise, certificate):
        self.promise = promise
        self.certificate = certificate


class BadText(PegError):
    """A text is not as it must be; line is 0 where the text is wrong as a whole."""

    def __init__(self, line):
        self.line = line


class NothingToUndo(PegError):
    """No deed can be taken back."""


class NothingToRedo(PegError):
    """No deed can be done again."""
