"""The errors that the functions of this package raise."""


class NoLetter(LookupError):
    """A letter is asked for that is not there."""

    def __init__(self, letter):
        LookupError.__init__(self, letter)
        self.letter = letter


class NoNumber(LookupError):
    """Nothing has this number."""

    def __init__(self, number):
        LookupError.__init__(self, number)
        self.number = number


class NoWay(LookupError):
    """A WAY is asked for that is not there."""

    def __init__(self, way):
        LookupError.__init__(self, way)
        self.way = way


class NothingDone(LookupError):
    """There is no deed that can be undone."""

    def __init__(self):
        LookupError.__init__(self)


class NoMirror(ValueError):
    """A ROW is not the palindrome of any WAY."""

    def __init__(self):
        ValueError.__init__(self)


class Endless(ValueError):
    """A family is not whole: it leaves endlessly many rooms."""

    def __init__(self):
        ValueError.__init__(self)


class Unfit(ValueError):
    """What is handed in does not fit together."""

    def __init__(self):
        ValueError.__init__(self)


class Known(ValueError):
    """A WAY is there already."""

    def __init__(self, way):
        ValueError.__init__(self, way)
        self.way = way


class BadText(ValueError):
    """Nothing has this text."""

    def __init__(self):
        ValueError.__init__(self)


class BadLine(ValueError):
    """The line with this number is no request."""

    def __init__(self, number):
        ValueError.__init__(self, number)
        self.number = number
