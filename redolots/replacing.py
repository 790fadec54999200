"""Replacing one image by another (point 46)."""
from redolots.errors import InvalidImage, NotAnchored
from redolots.images import EMPTY, check_image


def anchors(before, after):
    """For each block the least kept block that holds its value in the image after, or EMPTY."""
    _check_images(before, after)
    kept = {}
    for block, entry in enumerate(after):
        if entry != EMPTY and entry == before[block]:
            kept.setdefault(entry, block)
    return tuple([kept.get(entry, EMPTY) for entry in after])


def unanchored(before, after):
    """The ascending tuple of the values of the image after that no kept block holds."""
    held = anchors(before, after)
    return tuple(sorted({entry for block, entry in enumerate(after) if entry != EMPTY and held[block] == EMPTY}))


def replace_script(before, after):
    """A shortest script of copies and clears that leads from before to after under every rule."""
    loose = unanchored(before, after)
    if loose:
        raise NotAnchored(loose[0])
    # Kept blocks are read and never written, so neither the order nor repetitions of the lines matter.
    return [_write(block, anchor) for block, anchor in enumerate(anchors(before, after))
            if before[block] != after[block]]


def _check_images(before, after):
    check_image(before)
    check_image(after)
    if len(before) != len(after):
        raise InvalidImage(-1)


def _write(block, anchor):
    """The line that gives the block the value of its anchor; a block without one becomes empty."""
    if anchor == EMPTY:
        return ("clear", block, EMPTY, "")
    return ("copy", block, anchor, "")
