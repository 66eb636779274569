"""What judging and origins share: how windows follow each other in a row, and walks that end or never end."""

from windowkin.paths import paths


def window_moves(code):
    """For each context, a dict from an image to the moves with it: pairs of an edge and the next context.

    The context of a place in a row is the state there and the next edges, one fewer than the width. A window is a
    move from its context to the one a place later, over its first edge; so a row is an endless walk of moves.
    """
    edges = code.source.edges()
    windows = list(paths(code.source, code.width))
    numbers = {}
    for window in windows:
        numbers.setdefault((edges[window[0]][0], window[:-1]), len(numbers))
    moves = [{} for number in numbers]
    for window, image in zip(windows, code.images()):
        start, end = edges[window[0]]
        table = moves[numbers[(start, window[:-1])]]
        table.setdefault(image, []).append((window[0], numbers[(end, window[1:])]))
    return moves


def explored(starts, steps_from):
    """A dict from each node that can be reached to its steps: pairs of a label and the next node."""
    steps = {}
    waiting = list(starts)
    while waiting:
        node = waiting.pop()
        if node not in steps:
            steps[node] = steps_from(node)
            waiting.extend([onward for label, onward in steps[node]])
    return steps


def longest_walks(steps):
    """The length of the longest walk from each node from which every walk ends."""
    before = {node: [] for node in steps}
    for node, ways in steps.items():
        for label, onward in ways:
            before[onward].append(node)
    unsettled = {node: len(ways) for node, ways in steps.items()}
    lengths = {node: 0 for node in steps if unsettled[node] == 0}
    waiting = list(lengths)
    while waiting:
        ended = waiting.pop()
        for node in before[ended]:
            unsettled[node] -= 1
            if unsettled[node] == 0:
                lengths[node] = 1 + max([lengths[onward] for label, onward in steps[node]])
                waiting.append(node)
    return lengths


def lasting_steps(steps):
    """The steps without the nodes from which every walk ends."""
    ended = longest_walks(steps)
    return {node: [(label, onward) for label, onward in ways if onward not in ended]
            for node, ways in steps.items() if node not in ended}


def endless_walk(lasting, start):
    """The labels of a walk that never ends: those of its head and those of its cycle."""
    places = {}
    labels = []
    node = start
    while node not in places:
        places[node] = len(labels)
        label, node = lasting[node][0]
        labels.append(label)
    return labels[:places[node]], labels[places[node]:]
