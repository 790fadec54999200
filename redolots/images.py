"""Images, looks and the home image (points 4 and 5)."""
from redolots.errors import InvalidImage

EMPTY = -1
FREE = -2

_MOST_BLOCKS = 12
_GREATEST = 999


def check_image(image):
    """Raises InvalidImage if this is not an image."""
    if not isinstance(image, tuple) or not 1 <= len(image) <= _MOST_BLOCKS:
        raise InvalidImage(-1)
    for block, entry in enumerate(image):
        if not isinstance(entry, int) or not EMPTY <= entry <= _GREATEST:
            raise InvalidImage(block)


def look(image):
    """The look of the image: one character for each block."""
    check_image(image)
    return "".join([_sign(entry) for entry in image])


def home(blocks):
    """The image in which each block holds its own number."""
    return tuple(range(blocks))


def _sign(entry):
    if entry == EMPTY:
        return "."
    return str(entry // 100)
