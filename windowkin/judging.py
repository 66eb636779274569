"""Judging a code: whether it is one to one and onto, how wide a code back is, and the inverse."""

from windowkin.codes import Code, check_paths
from windowkin.errors import LimitExceeded, NotOneToOne, NotOnto
from windowkin.paths import paths
from windowkin.rows import normal_row
from windowkin.windows import endless_walk, explored, lasting_steps, longest_walks, window_moves

MAX_JUDGED = 12


def moves_by_image(moves):
    """The lists of all moves with one image."""
    groups = {}
    for table in moves:
        for image, ways in table.items():
            groups.setdefault(image, []).extend(ways)
    return list(groups.values())


def twin_starts(moves):
    """A dict of the pairs of contexts behind two moves with one image and different edges, to each these edges."""
    starts = {}
    for ways in moves_by_image(moves):
        for place, (edge, onward) in enumerate(ways):
            for other_edge, other_onward in ways[:place]:
                if edge != other_edge and onward == other_onward:
                    # from here the rows can go on alike, so the other starts need not be followed
                    return {(onward, onward): (edge, other_edge)}
                if edge != other_edge:
                    starts.setdefault((onward, other_onward), (edge, other_edge))
    return starts


def twin_steps(moves, twins):
    """The steps of two rows with one image from a pair of contexts: pairs of their edges and the next contexts."""
    one, other = twins
    if one == other:
        # the rows can go on alike for ever, and a single way is enough to show it
        edge, onward = list(moves[one].values())[0][0]
        return [((edge, edge), (onward, onward))]
    found = {}
    for image, ways in moves[one].items():
        other_ways = moves[other].get(image, [])
        for edge, onward in ways:
            for other_edge, other_onward in other_ways:
                found.setdefault((onward, other_onward), (edge, other_edge))
    return [(edges, pair) for pair, edges in found.items()]


def twin_walks(moves, starts):
    """All steps that two rows with one image can make behind their different first edges."""
    return explored(list(starts), lambda twins: twin_steps(moves, twins))


def row_of_side(side, head, cycle):
    """The row of one of two rows whose edges are listed as pairs."""
    return normal_row((tuple([edges[side] for edges in head]), tuple([edges[side] for edges in cycle])))


def conflict(code):
    """None if the code is one to one, otherwise two rows with different first edges that are led to one row."""
    moves = window_moves(code.narrowed())
    starts = twin_starts(moves)
    lasting = lasting_steps(twin_walks(moves, starts))
    for twins, firsts in starts.items():
        if twins in lasting:
            head, cycle = endless_walk(lasting, twins)
            return (row_of_side(0, [firsts] + head, cycle), row_of_side(1, [firsts] + head, cycle))
    return None


def width_back(code):
    """The least number of edges of an image that determine the first edge of the row, or None if none do."""
    moves = window_moves(code.narrowed())
    starts = twin_starts(moves)
    lengths = longest_walks(twin_walks(moves, starts))
    if any([twins not in lengths for twins in starts]):
        return None
    # the images agree for the first window and the walk behind it, and one more of them tells the rows apart
    return max([lengths[twins] + 2 for twins in starts], default=1)


def contexts_behind(moves, contexts, image):
    """The ascending tuple of the contexts behind all moves with an image from some contexts."""
    return tuple(sorted({onward for context in contexts for edge, onward in moves[context].get(image, [])}))


def shortest_unreached(moves, target):
    """The least one of the shortest paths of a target along which no moves go, or None."""
    onward = [target.leaving(end) for start, end in target.edges()]
    seen = set()
    everywhere = tuple(range(len(moves)))
    waiting = [((edge,), contexts_behind(moves, everywhere, edge)) for edge in range(len(target))]
    # paths are taken by length and then in ascending order; of several that end in the same contexts, the first one
    # is enough, because the others are continued in the same ways
    while waiting:
        longer = []
        for path, contexts in waiting:
            if len(contexts) == 0:
                return path
            if contexts not in seen:
                seen.add(contexts)
                longer.extend([(path + (edge,), contexts_behind(moves, contexts, edge)) for edge in onward[path[-1]]])
        waiting = longer
    return None


def unreached(code):
    """None if the code is onto, otherwise the least one of the shortest paths to which no path is led."""
    narrow = code.narrowed()
    if len(narrow) > MAX_JUDGED:
        raise LimitExceeded(MAX_JUDGED)
    return shortest_unreached(window_moves(narrow), code.target)


def first_edge(moves, path):
    """The first edge of a walk along which the moves have the edges of a path as their images."""
    held = [way for table in moves for way in table.get(path[0], [])]
    for image in path[1:]:
        held = [(first, further) for first, onward in held for edge, further in moves[onward].get(image, [])]
    return held[0][0]


def inverse(code):
    """The code that leads each image back to its row."""
    width = width_back(code)
    if width is None:
        raise NotOneToOne()
    if unreached(code) is not None:
        raise NotOnto()
    if width > Code.MAX_WIDTH:
        raise LimitExceeded(Code.MAX_WIDTH)
    check_paths(code.target, width)
    moves = window_moves(code.narrowed())
    images = [first_edge(moves, path) for path in paths(code.target, width)]
    return Code(code.target, code.source, width, images)
