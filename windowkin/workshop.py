"""The workshop: graphs, rows and codes under names, with a history."""

from windowkin.commands import check_commands, kept_graph, parts_of, run_command
from windowkin.errors import EmptyHistory, InvalidCapacity, UnknownName

MAX_THINGS = 12


class Workshop:
    """Keeps its things in a dict as commands.py describes it, and the earlier and later ones in the history.

    No dict is changed once it is kept, so that the history and clones may share it.
    """

    def __init__(self):
        self.things = {}
        self.past = []
        self.future = []
        self.thing_limit = MAX_THINGS

    def __eq__(self, other):
        return isinstance(other, Workshop) and self.things == other.things

    def __len__(self):
        return len(self.things)

    def __repr__(self):
        return f"Workshop({len(self.things)} things)"

    def apply(self, command):
        """Runs a command as an entry of the history."""
        self.apply_all([command])

    def apply_all(self, commands):
        """Runs a batch of commands as one entry of the history; if one fails, none has an effect."""
        check_commands(commands)
        things = dict(self.things)
        for command in commands:
            run_command(things, self.thing_limit, command)
        self.past.append(self.things)
        self.future = []
        self.things = things

    def undo(self):
        """Takes the last entry back."""
        if len(self.past) == 0:
            raise EmptyHistory()
        self.future.append(self.things)
        self.things = self.past.pop()

    def redo(self):
        """Brings back the entry that was undone last."""
        if len(self.future) == 0:
            raise EmptyHistory()
        self.past.append(self.things)
        self.things = self.future.pop()

    def forget_history(self):
        """Leaves the things as they are, with nothing to undo or redo."""
        self.past = []
        self.future = []

    @property
    def history(self):
        """The numbers of entries that can be undone and redone."""
        return (len(self.past), len(self.future))

    @property
    def capacity(self):
        """The number of things above which nothing can be added."""
        return self.thing_limit

    @capacity.setter
    def capacity(self, value):
        if not 1 <= value <= MAX_THINGS:
            raise InvalidCapacity(value)
        self.thing_limit = value

    def set_capacity(self, value):
        """Assigns the capacity."""
        self.capacity = value

    def names(self, *kinds):
        """The ascending list of the names of the things of some kinds, or of all things."""
        return sorted([name for name, thing in self.things.items() if len(kinds) == 0 or thing[0] in kinds])

    def kind(self, name):
        """The kind of a thing."""
        if name not in self.things:
            raise UnknownName(name)
        return self.things[name][0]

    def graph(self, name):
        """A graph."""
        return kept_graph(self.things, name)

    def row(self, name):
        """The name of the graph of a row, and the row."""
        return parts_of(self.things, "row", name)

    def code(self, name):
        """The names of the source and the target of a code, and the code."""
        return parts_of(self.things, "code", name)

    def clone(self):
        """A workshop with the same things, history and capacity."""
        twin = Workshop()
        twin.things = self.things
        twin.past = list(self.past)
        twin.future = list(self.future)
        twin.thing_limit = self.thing_limit
        return twin
