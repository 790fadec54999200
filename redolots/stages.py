"""Stages: pieces of a script that are safe from the top (point 45)."""
from redolots.errors import TooMany
from redolots.goals import check_goal
from redolots.growth import stage_lengths
from redolots.images import home
from redolots.lots import is_safe_under
from redolots.plain import images
from redolots.rules import FromTop
from redolots.shortest import check_has_log

_MOST_BLOCKS = 4


def is_stage(script, image):
    """True if the script is safe under FromTop from the image."""
    return is_safe_under(script, image, FromTop())


def stages(script, image):
    """The fewest cuts, and the least such tuple, between which each piece of the script is a stage."""
    shown = images(script, image)
    pieces = [[at + length for length in stage_lengths(script[at:], shown[at])] for at in range(len(script))]
    fewest = _fewest_pieces(pieces)
    cuts = []
    here = 0
    while fewest[here] > 1:
        here = min([cut for cut in pieces[here] if fewest[cut] == fewest[here] - 1])
        cuts.append(here)
    return tuple(cuts)


def fewest_stages(goal):
    """The least number of stages of a copy log to the goal. Raises TooMany, then NoLog."""
    check_goal(goal)
    if len(goal) > _MOST_BLOCKS:
        raise TooMany(_MOST_BLOCKS)
    check_has_log(goal)
    found = {home(len(goal)): True}
    last = list(found)
    many = 0
    while goal not in found:
        last = [image for image in _all_images(len(goal)) if image not in found and _is_next(last, image)]
        for image in last:
            found[image] = True
        many += 1
    return many


def _fewest_pieces(pieces):
    """For each position the least number of stages from it to the end."""
    fewest = [0] * (len(pieces) + 1)
    for at in range(len(pieces) - 1, -1, -1):
        fewest[at] = 1 + min([fewest[cut] for cut in pieces[at]])
    return fewest


def _all_images(blocks):
    """The list of all images in which each block holds a block number."""
    found = [()]
    for _ in range(blocks):
        found = [image + (number,) for image in found for number in range(blocks)]
    return found


def _is_next(last, image):
    """True if a stage leads from one of the last images to this one, in which each value must be anchored."""
    for before in last:
        kept = [entry for entry, now in zip(before, image) if entry == now]
        if all([entry in kept for entry in image]):
            return True
    return False
