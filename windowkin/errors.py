"""The errors of the package, each with its fields and the word by which a console names it."""


class WindowError(ValueError):
    """The base of the errors of wrong values; it is never raised itself."""

    def __init__(self, word="windowerror", told=""):
        ValueError.__init__(self, told)
        self.word = word


class InvalidGraph(WindowError):
    """The parts make no graph; place is -1, the index of an edge, or the number of edges."""

    def __init__(self, place):
        WindowError.__init__(self, "invalidgraph", f"no graph: place {place}")
        self.place = place


class LimitExceeded(WindowError):
    """Something would be larger than a fixed limit."""

    def __init__(self, limit):
        WindowError.__init__(self, "limitexceeded", f"more than the limit of {limit}")
        self.limit = limit


class OutOfRange(WindowError):
    """There is nothing with this number."""

    def __init__(self, number):
        WindowError.__init__(self, "outofrange", f"nothing has the number {number}")
        self.number = number


class InvalidRow(WindowError):
    """The parts make no row; place is -1, a place of head and cycle, or the number of both."""

    def __init__(self, place):
        WindowError.__init__(self, "invalidrow", f"no row: place {place}")
        self.place = place


class InvalidPath(WindowError):
    """The edges make no path; place is the first one at fault."""

    def __init__(self, place):
        WindowError.__init__(self, "invalidpath", f"no path: place {place}")
        self.place = place


class InvalidWidth(WindowError):
    """A code cannot have this width."""

    def __init__(self, number):
        WindowError.__init__(self, "invalidwidth", f"no width: {number}")
        self.number = number


class InvalidCode(WindowError):
    """The images make no code; place is -1 or the index of an image."""

    def __init__(self, place):
        WindowError.__init__(self, "invalidcode", f"no code: place {place}")
        self.place = place


class InvalidLength(WindowError):
    """Paths of this length are not listed or counted."""

    def __init__(self, length):
        WindowError.__init__(self, "invalidlength", f"no length: {length}")
        self.length = length


class InvalidCount(WindowError):
    """So many edges cannot be removed."""

    def __init__(self, count):
        WindowError.__init__(self, "invalidcount", f"no count: {count}")
        self.count = count


class GraphMismatch(WindowError):
    """A row or a code belongs to another graph."""

    def __init__(self):
        WindowError.__init__(self, "graphmismatch", "the graphs do not match")


class InvalidStep(WindowError):
    """The graph does not allow the step."""

    def __init__(self):
        WindowError.__init__(self, "invalidstep", "the graph does not allow the step")


class NotOneToOne(WindowError):
    """The code leads two rows to one row."""

    def __init__(self):
        WindowError.__init__(self, "notonetoone", "the code is not one to one")


class NotOnto(WindowError):
    """The code leads no row to some row of its target."""

    def __init__(self):
        WindowError.__init__(self, "notonto", "the code is not onto")


class EndlessOrigins(WindowError):
    """The row has endlessly many origins."""

    def __init__(self):
        WindowError.__init__(self, "endlessorigins", "the row has endlessly many origins")


class InvalidName(WindowError):
    """The text is no name."""

    def __init__(self, name):
        WindowError.__init__(self, "invalidname", f"no name: {name}")
        self.name = name


class DuplicateName(WindowError):
    """A thing has this name already."""

    def __init__(self, name):
        WindowError.__init__(self, "duplicatename", f"the name is taken: {name}")
        self.name = name


class CapacityExceeded(WindowError):
    """The workshop holds as many things as it may."""

    def __init__(self, limit):
        WindowError.__init__(self, "capacityexceeded", f"no room for more than {limit} things")
        self.limit = limit


class InvalidCapacity(WindowError):
    """A workshop cannot have this capacity."""

    def __init__(self, number):
        WindowError.__init__(self, "invalidcapacity", f"no capacity: {number}")
        self.number = number


class NameInUse(WindowError):
    """The row or code of this name belongs to the graph."""

    def __init__(self, name):
        WindowError.__init__(self, "nameinuse", f"the graph is used by {name}")
        self.name = name


class InvalidCommand(WindowError):
    """The tuple is no command; position is its index in the list."""

    def __init__(self, position):
        WindowError.__init__(self, "invalidcommand", f"no command at {position}")
        self.position = position


class ParseError(WindowError):
    """The text writes no value."""

    def __init__(self):
        WindowError.__init__(self, "parseerror", "the text writes no value")


class InvalidFile(WindowError):
    """The text writes no workshop; line is the first line at fault."""

    def __init__(self, line):
        WindowError.__init__(self, "invalidfile", f"no workshop: line {line}")
        self.line = line


class Absent(LookupError):
    """The base of the errors of missing things; it is never raised itself."""

    def __init__(self, word="absent", told=""):
        LookupError.__init__(self, told)
        self.word = word


class UnknownName(Absent):
    """No thing of this kind has the name."""

    def __init__(self, name):
        Absent.__init__(self, "unknownname", f"unknown name: {name}")
        self.name = name


class EmptyHistory(Absent):
    """There is no entry to undo or redo."""

    def __init__(self):
        Absent.__init__(self, "emptyhistory", "there is no entry")
