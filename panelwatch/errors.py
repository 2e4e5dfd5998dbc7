"""The refusals of the program: three families, and an error of its own for each kind of refusal."""

# The texts don't show what was handed in, as by hand an error may be made of
# any thing, one that can't be shown in a text, too. The fields tell it.


class PanelError(ValueError):
    """Something isn't what is wanted."""

    def __init__(self, text):
        ValueError.__init__(self, text)


class Absent(KeyError):
    """Something that was named isn't there."""

    def __init__(self, text):
        KeyError.__init__(self, text)


class Barred(LookupError):
    """Something can't be done now."""

    def __init__(self, text):
        LookupError.__init__(self, text)


class TooMany(PanelError):
    def __init__(self, many):
        PanelError.__init__(self, "these are too many")
        self.many = many


class NoRow(PanelError):
    def __init__(self, at):
        PanelError.__init__(self, "there is no row that will do")
        self.at = at


class NoTime(PanelError):
    def __init__(self, found):
        PanelError.__init__(self, "this is no time that will do")
        self.found = found


class NoWorth(PanelError):
    def __init__(self, found):
        PanelError.__init__(self, "this is no worth")
        self.found = found


class NoMark(PanelError):
    def __init__(self, found):
        PanelError.__init__(self, "this is no mark")
        self.found = found


class NoNumber(PanelError):
    def __init__(self, found):
        PanelError.__init__(self, "this is no number that will do")
        self.found = found


class NoTruth(PanelError):
    def __init__(self, found):
        PanelError.__init__(self, "this is neither True nor False")
        self.found = found


class NoList(PanelError):
    def __init__(self, found):
        PanelError.__init__(self, "this is no list that will do")
        self.found = found


class NoPoints(PanelError):
    def __init__(self, found):
        PanelError.__init__(self, "this is no list of points")
        self.found = found


class NoRules(PanelError):
    def __init__(self, found):
        PanelError.__init__(self, "this is no list of rules")
        self.found = found


class NoCauses(PanelError):
    def __init__(self, found):
        PanelError.__init__(self, "this is no list of causes")
        self.found = found


class NoCommands(PanelError):
    def __init__(self, found):
        PanelError.__init__(self, "this is no list of commands")
        self.found = found


class NoRelations(PanelError):
    def __init__(self, found):
        PanelError.__init__(self, "this is no list of relations")
        self.found = found


class NoWorks(PanelError):
    def __init__(self, found):
        PanelError.__init__(self, "these are no works")
        self.found = found


class NoLetter(PanelError):
    def __init__(self, found):
        PanelError.__init__(self, "this is no letter that will do")
        self.found = found


class NoRoom(PanelError):
    def __init__(self, found):
        PanelError.__init__(self, "this is no room")
        self.found = found


class NoTerm(PanelError):
    def __init__(self, found):
        PanelError.__init__(self, "this is no term")
        self.found = found


class NoId(PanelError):
    def __init__(self, found):
        PanelError.__init__(self, "this is no id")
        self.found = found


class NoHearing(PanelError):
    def __init__(self, found):
        PanelError.__init__(self, "this is no hearing")
        self.found = found


class NoHistory(PanelError):
    def __init__(self, found):
        PanelError.__init__(self, "this is no history")
        self.found = found


class NoEvents(PanelError):
    def __init__(self, found):
        PanelError.__init__(self, "these are no events")
        self.found = found


class NoPicture(PanelError):
    def __init__(self, found):
        PanelError.__init__(self, "this is no picture")
        self.found = found


class NoPlant(PanelError):
    def __init__(self, found):
        PanelError.__init__(self, "this is no plant")
        self.found = found


class NoLog(PanelError):
    def __init__(self, found):
        PanelError.__init__(self, "this is no log")
        self.found = found


class NoDeed(PanelError):
    def __init__(self, found):
        PanelError.__init__(self, "this is no deed")
        self.found = found


class NoText(PanelError):
    def __init__(self, found):
        PanelError.__init__(self, "this text writes nothing")
        self.found = found


class NoLine(PanelError):
    def __init__(self, found):
        PanelError.__init__(self, "this is no line")
        self.found = found


class Unlike(PanelError):
    def __init__(self, found):
        PanelError.__init__(self, "this is unlike another one")
        self.found = found


class Twice(PanelError):
    def __init__(self, found):
        PanelError.__init__(self, "this stands ahead, too")
        self.found = found


class Ring(PanelError):
    def __init__(self, found):
        PanelError.__init__(self, "this leads to itself")
        self.found = found


class NoPoint(Absent):
    def __init__(self, found):
        Absent.__init__(self, "there is no such point")
        self.found = found


class NoPlace(Absent):
    def __init__(self, found):
        Absent.__init__(self, "there is no such place")
        self.found = found


class NoRule(Absent):
    def __init__(self, found):
        Absent.__init__(self, "there is no such rule")
        self.found = found


class NoCommand(Absent):
    def __init__(self, found):
        Absent.__init__(self, "there is no such command")
        self.found = found


class NotThere(Absent):
    def __init__(self, found):
        Absent.__init__(self, "there is no such thing here")
        self.found = found


class NotOnRoad(Absent):
    def __init__(self, found):
        Absent.__init__(self, "this is not on the road")
        self.found = found


class Locked(Barred):
    def __init__(self, found):
        Barred.__init__(self, "a lock does not hold")
        self.found = found


class Down(Barred):
    def __init__(self, found):
        Barred.__init__(self, "the room fell")
        self.found = found


class Stands(Barred):
    def __init__(self, found):
        Barred.__init__(self, "the room stands")
        self.found = found


class NotNow(Barred):
    def __init__(self, found):
        Barred.__init__(self, "this can't be done now")
        self.found = found
