"""The errors of the package: each keeps the very object that it was raised for."""


class BerthError(ValueError):
    """What all errors of the package are."""


class BadKind(BerthError):
    """The object is no kind."""

    def __init__(self, kind):
        self.kind = kind


class BadOption(BerthError):
    """The option of that name has a value that it cannot have."""

    def __init__(self, name):
        self.name = name


class BadMember(BerthError):
    """What is declared at that place is no member."""

    def __init__(self, place):
        self.place = place


class BadBits(BerthError):
    """The bit field at that place has a number of bits that it cannot have."""

    def __init__(self, place):
        self.place = place


class BadName(BerthError):
    """The name is there already."""

    def __init__(self, name):
        self.name = name


class BadPath(BerthError):
    """The object is no path, or it does not lead to what is asked for."""

    def __init__(self, path):
        self.path = path


class BadOctet(BerthError):
    """The object is no integer from 0 to 255."""

    def __init__(self, value):
        self.value = value


class BadAddress(BerthError):
    """The object is no address within the memory."""

    def __init__(self, octet):
        self.octet = octet


class BadValue(BerthError):
    """The object is no integer that could be written."""

    def __init__(self, value):
        self.value = value


class BadSize(BerthError):
    """There are so many octets, but not so many are wanted."""

    def __init__(self, many):
        self.many = many


class BadProgram(BerthError):
    """The deed at that place is none; None: the program is no list."""

    def __init__(self, place):
        self.place = place


class BadWish(BerthError):
    """Unlike things are wished of that bit; None: the object is no wish."""

    def __init__(self, bit):
        self.bit = bit


class BadFact(BerthError):
    """The object is no fact."""

    def __init__(self, fact):
        self.fact = fact
