"""The refusals: three bases, and a class of its own for each refusal."""


class TermError(ValueError):
    """A thing that is handed in isn't what is asked for."""

    def __init__(self, text):
        ValueError.__init__(self, text)


class Unknown(KeyError):
    """What is asked for isn't there."""

    def __init__(self, text):
        KeyError.__init__(self, text)


class Lost(LookupError):
    """There is nothing to be told."""

    def __init__(self, text):
        LookupError.__init__(self, text)


class NoNumber(TermError):
    def __init__(self, found):
        TermError.__init__(self, "no whole number that is asked for")
        self.found = found


class NoName(TermError):
    def __init__(self, found):
        TermError.__init__(self, "no name")
        self.found = found


class NoFraction(TermError):
    def __init__(self, found):
        TermError.__init__(self, "no fraction")
        self.found = found


class NoManner(TermError):
    def __init__(self, found):
        TermError.__init__(self, "no manner")
        self.found = found


class NoRow(TermError):
    def __init__(self, found):
        TermError.__init__(self, "no row that is asked for")
        self.found = found


class NoTerm(TermError):
    def __init__(self, found):
        TermError.__init__(self, "no term that may stand here")
        self.found = found


class NoCone(TermError):
    def __init__(self, found):
        TermError.__init__(self, "no cone")
        self.found = found


class NoRows(TermError):
    def __init__(self, found):
        TermError.__init__(self, "no rows of a machine")
        self.found = found


class NoStream(TermError):
    def __init__(self, found):
        TermError.__init__(self, "no stream that is asked for")
        self.found = found


class NoRound(TermError):
    def __init__(self, found):
        TermError.__init__(self, "no round that is asked for")
        self.found = found


class NoSurd(TermError):
    def __init__(self, found):
        TermError.__init__(self, "no surd")
        self.found = found


class NoBase(TermError):
    def __init__(self, found):
        TermError.__init__(self, "no base")
        self.found = found


class NoBounds(TermError):
    def __init__(self, found):
        TermError.__init__(self, "no bounds that are asked for")
        self.found = found


class NoLine(TermError):
    def __init__(self, found):
        TermError.__init__(self, "no line or row that is asked for")
        self.found = found


class NoText(TermError):
    def __init__(self, line):
        TermError.__init__(self, "no text of a plan")
        self.line = line


class Nought(TermError):
    def __init__(self, found):
        TermError.__init__(self, "divided by nought")
        self.found = found


class Flat(TermError):
    def __init__(self, found):
        TermError.__init__(self, "rows that reckon the same of all numbers")
        self.found = found


class Doubled(TermError):
    def __init__(self, found):
        TermError.__init__(self, "a name that stands there already")
        self.found = found


class TooMany(TermError):
    def __init__(self, many):
        TermError.__init__(self, "too many")
        self.many = many


class Finished(TermError):
    def __init__(self, found):
        TermError.__init__(self, "finished already")
        self.found = found


class NotInNet(Unknown):
    def __init__(self, found):
        Unknown.__init__(self, "no name in the net")
        self.found = found


class NoPlace(Unknown):
    def __init__(self, found):
        Unknown.__init__(self, "no place")
        self.found = found


class NoBack(Lost):
    def __init__(self):
        Lost.__init__(self, "nothing to be taken back")


class NoneThere(Lost):
    def __init__(self, found):
        Lost.__init__(self, "there is none")
        self.found = found
