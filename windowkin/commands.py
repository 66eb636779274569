"""The commands of a workshop, which change a dict of its things.

The dict holds under each name a tuple: ("graph", graph), ("row", name of its graph, row) or ("code", name of its
source, name of its target, code). So the names of the graphs to which a thing belongs are the items in the middle.
"""

from windowkin.codes import Code, compose
from windowkin.errors import (CapacityExceeded, DuplicateName, GraphMismatch, InvalidCommand, InvalidName, NameInUse,
                              UnknownName)
from windowkin.graphs import Graph
from windowkin.rows import check_row, drop, normal_row

MAX_LETTERS = 6
SHAPES = (("graph", 4), ("row", 4), ("code", 6), ("lead", 4), ("drop", 3), ("step", 3), ("remove", 2))
ADDING = ("graph", "row", "code", "lead")


def check_commands(commands):
    """Raises InvalidCommand with the index of the first tuple that is no command."""
    for position, command in enumerate(commands):
        if len(command) == 0 or (command[0], len(command)) not in SHAPES:
            raise InvalidCommand(position)


def check_new_name(things, capacity, name):
    """Raises the errors of a command that adds a thing, as far as they do not depend on its kind."""
    if not (len(name) <= MAX_LETTERS and name.isalpha() and name.islower()):
        raise InvalidName(name)
    if name in things:
        raise DuplicateName(name)
    if len(things) >= capacity:
        raise CapacityExceeded(capacity)


def parts_of(things, kind, name):
    """What a thing of a kind consists of; a thing of another kind counts as unknown."""
    if name not in things or things[name][0] != kind:
        raise UnknownName(name)
    return things[name][1:]


def kept_graph(things, name):
    """The graph with a name."""
    return parts_of(things, "graph", name)[0]


def add_graph(things, name, states, edges):
    """Adds a graph."""
    things[name] = ("graph", Graph(states, edges))


def add_row(things, name, graph_name, row):
    """Adds a row to a graph."""
    check_row(kept_graph(things, graph_name), row)
    things[name] = ("row", graph_name, normal_row(row))


def add_code(things, name, source_name, target_name, width, images):
    """Adds a code between two graphs."""
    source = kept_graph(things, source_name)
    target = kept_graph(things, target_name)
    things[name] = ("code", source_name, target_name, Code(source, target, width, images))


def add_led_row(things, name, code_name, row_name):
    """Adds the row to which a code leads a row."""
    source_name, target_name, code = parts_of(things, "code", code_name)
    graph_name, row = parts_of(things, "row", row_name)
    # the graphs may be equal under different names, but later steps would part them
    if graph_name != source_name:
        raise GraphMismatch()
    things[name] = ("row", target_name, code.lead(row))


def drop_edges(things, name, count):
    """Removes the first edges of a row."""
    graph_name, row = parts_of(things, "row", name)
    things[name] = ("row", graph_name, drop(row, count=count))


def moved_thing(thing, graph_name, forward, back):
    """What becomes of a row or a code that belongs to a graph when a step with these codes is applied to the graph."""
    if thing[0] == "row":
        return ("row", graph_name, forward.lead(thing[2]))
    kind, source_name, target_name, code = thing
    ahead = [back] if source_name == graph_name else []
    behind = [forward] if target_name == graph_name else []
    codes = ahead + [code] + behind
    return ("code", source_name, target_name, compose(*codes))


def take_step(things, graph_name, step):
    """Applies a step to a graph; its rows and codes follow."""
    graph = kept_graph(things, graph_name)
    forward = step.forward(graph)
    back = step.back(graph)
    things[graph_name] = ("graph", forward.target)
    # in ascending order, because the first code that cannot follow tells the error
    names = sorted(things)
    for name in names:
        if graph_name in things[name][1:-1]:
            things[name] = moved_thing(things[name], graph_name, forward, back)


def remove_thing(things, name):
    """Removes a thing to which nothing else belongs."""
    if name not in things:
        raise UnknownName(name)
    users = sorted([user for user, thing in things.items() if name in thing[1:-1]])
    if users:
        raise NameInUse(users[0])
    del things[name]


ACTIONS = {
    "graph": add_graph,
    "row": add_row,
    "code": add_code,
    "lead": add_led_row,
    "drop": drop_edges,
    "step": take_step,
    "remove": remove_thing,
}


def run_command(things, capacity, command):
    """Runs a command on things; if it fails, they may have changed in part."""
    parts = command[1:]
    if command[0] in ADDING:
        check_new_name(things, capacity, parts[0])
    action = ACTIONS[command[0]]
    action(things, *parts)
