"""Rename pairs and careful scripts, and how the values of a rename pair move (points 47 and 48)."""
from redolots.cycles import all_rings, followed
from redolots.errors import NotCareful, NotRenaming
from redolots.images import EMPTY, check_image
from redolots.lines import check_script


def check_renaming(before, after):
    """Raises InvalidImage or NotRenaming if these are not a rename pair."""
    check_image(before)
    check_image(after)
    values = [entry for entry in before if entry != EMPTY]
    if sorted(before) != sorted(after) or len(set(values)) < len(values):
        raise NotRenaming()


def check_careful(script, image):
    """Raises InvalidImage, InvalidLine or NotCareful if this is no careful script for the image."""
    check_script(script, image)
    for at, line in enumerate(script):
        if not _is_careful(line):
            raise NotCareful(at)


def chains(before, after):
    """The list of all chains, ascending."""
    leads = _leads(before, after)
    starts = [block for block, entry in enumerate(before) if entry == EMPTY and after[block] != EMPTY]
    return [followed(leads, block) for block in starts]


def rings(before, after):
    """The list of all rings, ascending; each is a tuple that begins with its least block."""
    return all_rings(_leads(before, after))


def moving(before, after):
    """The ascending tuple of the values that move."""
    check_renaming(before, after)
    return tuple(sorted([now for entry, now in zip(before, after) if now not in (entry, EMPTY)]))


def _is_careful(line):
    op, target, _, guard = line
    return op == "move" and guard != "" and guard[target] == "."


def _leads(before, after):
    """For each block the block on which its value after lies before, or EMPTY."""
    check_renaming(before, after)
    return tuple([EMPTY if entry == EMPTY else before.index(entry) for entry in after])
