"""The search for all codes of a width between two graphs that are one to one and onto."""

from windowkin.codes import Code, check_paths, check_width
from windowkin.errors import InvalidCode, LimitExceeded
from windowkin.judging import MAX_JUDGED, conflict, unreached
from windowkin.paths import count_paths

MAX_MAPS = 4096


def check_maps(images, length):
    """Raises LimitExceeded if there are too many lists of a length, each item one of so many images."""
    maps = 1
    for place in range(length):
        maps *= images
        if maps > MAX_MAPS:
            raise LimitExceeded(MAX_MAPS)


def image_lists(images, length):
    """All tuples of a length, each item one of so many images, in ascending order."""
    found = [()]
    for place in range(length):
        found = [chosen + (image,) for chosen in found for image in range(images)]
    return found


def code_of(one, other, width, images):
    """The code with these images, or None if they make none."""
    try:
        return Code(one, other, width, images)
    except InvalidCode:
        return None


def find_codes(one, other, *, width=1):
    """The list of all codes of a width from one to other that are one to one and onto, in ascending order of images."""
    check_width(width, 1)
    check_paths(one, width)
    length = count_paths(one, width)
    check_maps(len(other), length)
    if length > MAX_JUDGED:
        raise LimitExceeded(MAX_JUDGED)
    codes = [code_of(one, other, width, images) for images in image_lists(len(other), length)]
    return [code for code in codes if code is not None and conflict(code) is None and unreached(code) is None]
