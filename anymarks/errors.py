"""The errors of the package, each with its arguments as attributes.

No message shows a value that was handed in: it may be of any kind, and
showing it may be endless or fail.
"""


class MarkError(ValueError):
    """What all errors of the package are beneath."""


class BadWeb(MarkError):
    """The value is no web."""

    def __init__(self, value):
        MarkError.__init__(self, "this is no web")
        self.value = value


class BadSaying(MarkError):
    """The part with this path is wrong in itself."""

    def __init__(self, path):
        MarkError.__init__(self, "a part of this is no saying; its path is told")
        self.path = path


class BadMarking(MarkError):
    """The value is no marking of the web."""

    def __init__(self, value):
        MarkError.__init__(self, "this is no marking of the web")
        self.value = value


class BadWorld(MarkError):
    """The value is no world of the web."""

    def __init__(self, value):
        MarkError.__init__(self, "this is no world of the web")
        self.value = value


class BadWay(MarkError):
    """The value is no way."""

    def __init__(self, value):
        MarkError.__init__(self, "this is no way, an integer from -3 to 2")
        self.value = value


class BadLetter(MarkError):
    """The value is no letter."""

    def __init__(self, value):
        MarkError.__init__(self, "this is no letter, an integer from 0 to 7")
        self.value = value


class BadFact(MarkError):
    """The part with this path is wrong in itself."""

    def __init__(self, path):
        MarkError.__init__(self, "a part of this is no fact; its path is told")
        self.path = path


class BadForm(MarkError):
    """The form is wrong at this place."""

    def __init__(self, place):
        MarkError.__init__(self, "this is no form; the wrong place is told")
        self.place = place


class NoShape(MarkError):
    """The saying is out of shape: by a piece, or by letters needed for themselves."""

    def __init__(self, value, letters):
        MarkError.__init__(self, "the saying is out of shape")
        self.value = value
        self.letters = letters


class NoForward(MarkError):
    """The form is not forward at this place."""

    def __init__(self, place):
        MarkError.__init__(self, "the form is not forward; the place is told")
        self.place = place


class BadLot(MarkError):
    """The lot is wrong at this place."""

    def __init__(self, place):
        MarkError.__init__(self, "this is no lot; the wrong place is told")
        self.place = place


class Stuck(MarkError):
    """The letter cannot be put away so."""

    def __init__(self, letter):
        MarkError.__init__(self, "the letter cannot be put away so")
        self.letter = letter


class BadPaper(MarkError):
    """The paper is wrong at this place."""

    def __init__(self, place):
        MarkError.__init__(self, "this is no paper; the wrong place is told")
        self.place = place


class BadParameter(MarkError):
    """The value is not what this parameter may be."""

    def __init__(self, value):
        MarkError.__init__(self, "this is not what the parameter may be")
        self.value = value


class NoRow(MarkError):
    """What is asked for is not there."""

    def __init__(self):
        MarkError.__init__(self, "there is none")


class TooGreat(MarkError):
    """A told number is greater than the most that it may be."""

    def __init__(self, most):
        MarkError.__init__(self, "a number is greater than the most that is told")
        self.most = most
