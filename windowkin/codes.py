"""Codes: each path of a fixed length of one graph gets an edge of another one, so that rows are led to rows."""

from windowkin.errors import GraphMismatch, InvalidCode, InvalidPath, InvalidWidth, LimitExceeded
from windowkin.paths import count_paths, first_break, paths
from windowkin.rows import check_row, normal_row


def check_width(width, lowest):
    """Raises InvalidWidth if a width is not from the lowest one to the greatest one that a code may have."""
    if not lowest <= width <= Code.MAX_WIDTH:
        raise InvalidWidth(width)


def check_paths(graph, width):
    """Raises LimitExceeded if a graph has more paths of a length than a code may have."""
    if count_paths(graph, width) > Code.MAX_PATHS:
        raise LimitExceeded(Code.MAX_PATHS)


def check_images(target, images):
    """Raises InvalidCode with the index of the first image that is no edge of the target."""
    for place, image in enumerate(images):
        if not 0 <= image < len(target):
            raise InvalidCode(place)


def check_following(source, target, table):
    """Raises InvalidCode with the index of the first path after whose image the image of a next one does not follow."""
    image_edges = target.edges()
    onward = [source.leaving(end) for start, end in source.edges()]
    for place, (window, image) in enumerate(table.items()):
        state = image_edges[image][1]
        for edge in onward[window[-1]]:
            if image_edges[table[window[1:] + (edge,)]][0] != state:
                raise InvalidCode(place)


def shortened(table):
    """The images of the paths without their last edges, or None if they depend on these."""
    shorter = {}
    for window, image in table.items():
        if shorter.setdefault(window[:-1], image) != image:
            return None
    return shorter


class Code:
    """A code that never changes. Its images are listed in ascending order of the paths."""

    MAX_WIDTH = 4
    MAX_PATHS = 600

    def __init__(self, source, target, width, images):
        check_width(width, 1)
        check_paths(source, width)
        windows = list(paths(source, width))
        if len(images) != len(windows):
            raise InvalidCode(-1)
        check_images(target, images)
        table = {window: image for window, image in zip(windows, images)}
        check_following(source, target, table)
        self.source_graph = source
        self.target_graph = target
        self.window_size = width
        self.image_edges = tuple(images)
        self.image_table = table

    @classmethod
    def identity(cls, graph):
        """The code of width 1 that leads each edge to itself."""
        return cls(graph, graph, 1, list(range(len(graph))))

    def __eq__(self, other):
        return (isinstance(other, Code) and self.window_size == other.window_size
                and self.image_edges == other.image_edges and self.source_graph == other.source_graph
                and self.target_graph == other.target_graph)

    def __len__(self):
        return len(self.image_edges)

    def __repr__(self):
        return f"Code(width {self.window_size}, {len(self.image_edges)} images)"

    @property
    def source(self):
        """The graph whose rows are led."""
        return self.source_graph

    @property
    def target(self):
        """The graph to whose rows they are led."""
        return self.target_graph

    @property
    def width(self):
        """The number of edges on which an image depends."""
        return self.window_size

    def images(self):
        """The list of images."""
        return list(self.image_edges)

    def lead_path(self, path):
        """The path to which a path is led; the empty tuple if it is shorter than the width."""
        place = first_break(self.source_graph, path)
        if place is not None:
            raise InvalidPath(place)
        return self.images_along(path)

    def images_along(self, path):
        """The images of the parts of a path, one after the other; the path is not checked."""
        size = self.window_size
        return tuple([self.image_table[path[at:at + size]] for at in range(len(path) - size + 1)])

    def lead(self, row):
        """The row to which a row is led."""
        check_row(self.source_graph, row)
        head, cycle = row
        # one window begins at each place of head and cycle, and the last one reaches beyond the end
        needed = len(head) + len(cycle) + self.window_size - 1
        images = self.images_along((head + cycle * self.window_size)[:needed])
        return normal_row((images[:len(head)], images[len(head):]))

    def narrowed(self):
        """The code of the least width that is alike."""
        table = self.image_table
        width = self.window_size
        while width > 1:
            shorter = shortened(table)
            if shorter is None:
                break
            table = shorter
            width -= 1
        if width == self.window_size:
            return self
        return Code(self.source_graph, self.target_graph, width, list(table.values()))

    def widened(self, width):
        """The alike code of a width."""
        check_width(width, self.window_size)
        check_paths(self.source_graph, width)
        images = [self.image_table[path[:self.window_size]] for path in paths(self.source_graph, width)]
        return Code(self.source_graph, self.target_graph, width, images)


def applied_after(first, second):
    """The code that applies two codes, with the width that both together need."""
    if first.target != second.source:
        raise GraphMismatch()
    width = first.width + second.width - 1
    if width > Code.MAX_WIDTH:
        raise LimitExceeded(Code.MAX_WIDTH)
    check_paths(first.source, width)
    images = [second.images_along(first.images_along(path))[0] for path in paths(first.source, width)]
    return Code(first.source, second.target, width, images)


def compose(first, *others):
    """The narrowed code that applies several codes, first the first one."""
    result = first.narrowed()
    for code in others:
        result = applied_after(result, code).narrowed()
    return result


def alike(one, other):
    """Whether two codes have equal sources and targets and lead every row to the same row."""
    return one.narrowed() == other.narrowed()
