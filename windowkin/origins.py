"""Origins of a row: the rows that a code leads to it."""

from windowkin.errors import EndlessOrigins, LimitExceeded
from windowkin.rows import check_row, normal_row
from windowkin.windows import endless_walk, explored, lasting_steps, window_moves

MAX_LISTED = 60


def origin_walks(code, row):
    """The steps of all origins. A node is a pair of a place of the row and a context; origins start at place 0."""
    check_row(code.target, row)
    head, cycle = normal_row(row)
    images = head + cycle
    # behind the last place comes the first one of the cycle
    places = list(range(1, len(images))) + [len(head)]
    moves = window_moves(code.narrowed())

    def steps_from(node):
        place, context = node
        return [(edge, (places[place], onward)) for edge, onward in moves[context].get(images[place], [])]

    return lasting_steps(explored([(0, context) for context in range(len(moves))], steps_from))


def cycle_entries(lasting):
    """A dict of the nodes on cycles and behind them, to each the number of walks that come to a first one there."""
    entering = {node: 0 for node in lasting}
    for ways in list(lasting.values()):
        for edge, onward in ways:
            entering[onward] += 1
    entries = {node: 1 if node[0] == 0 else 0 for node in lasting}
    waiting = [node for node in lasting if entering[node] == 0]
    while waiting:
        node = waiting.pop()
        count = entries.pop(node)
        for edge, onward in lasting[node]:
            entries[onward] += count
            entering[onward] -= 1
            if entering[onward] == 0:
                waiting.append(onward)
    return entries


def count_walks(lasting, entries):
    """The number of endless walks from the starts, or None if there are endlessly many."""
    # a walk that can leave a cycle can do so after any number of rounds
    if any([len(lasting[node]) > 1 for node in entries]):
        return None
    return sum(list(entries.values()))


def count_origins(code, row):
    """The number of origins of a row, or None if there are endlessly many."""
    lasting = origin_walks(code, row)
    return count_walks(lasting, cycle_entries(lasting))


def listed_rows(lasting, entries):
    """The rows of all endless walks from the starts; no walk can leave a cycle."""
    rows = []
    waiting = [(node, ()) for node in lasting if node[0] == 0]
    while waiting:
        node, edges = waiting.pop()
        if node in entries:
            head, cycle = endless_walk(lasting, node)
            rows.append(normal_row((edges + tuple(head), tuple(cycle))))
        else:
            waiting.extend([(onward, edges + (edge,)) for edge, onward in lasting[node]])
    return rows


def origins(code, row):
    """The list of all origins of a row, in ascending order."""
    lasting = origin_walks(code, row)
    entries = cycle_entries(lasting)
    count = count_walks(lasting, entries)
    if count is None:
        raise EndlessOrigins()
    if count > MAX_LISTED:
        raise LimitExceeded(MAX_LISTED)
    return sorted(listed_rows(lasting, entries))
