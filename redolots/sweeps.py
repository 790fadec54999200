"""The most that a script can stand (point 37)."""
from itertools import combinations

from redolots.errors import TooMany
from redolots.lines import check_script
from redolots.lots import is_safe_under
from redolots.machines import Lagging
from redolots.rules import FromPoints, Late

_MOST_LINES = 8


def safe_lag(script, image):
    """The greatest age, up to the length, for which the script is safe under Lagging."""
    check_script(script, image)
    # Each age allows all that lower ages allow. So if one of them is too much, the greatest is.
    if is_safe_under(script, image, Lagging(len(script))):
        return len(script)
    safe = 0
    unsafe = len(script)
    while unsafe - safe > 1:
        middle = (safe + unsafe) // 2
        if is_safe_under(script, image, Lagging(middle)):
            safe = middle
        else:
            unsafe = middle
    return safe


def late_set(script, image):
    """The lines, each added if it can, that may all be repeated late."""
    check_script(script, image)
    collected = ()
    for at in range(len(script)):
        if is_safe_under(script, image, Late(collected + (at,))):
            collected = collected + (at,)
    return collected


def fewest_points(script, image):
    """The fewest points, and the least such tuple, with which the script is safe under FromPoints."""
    check_script(script, image)
    if len(script) > _MOST_LINES:
        raise TooMany(_MOST_LINES)
    # With all positions as points every script is safe, so the search does not end without an answer.
    for many in range(len(script) + 1):
        for points in combinations(range(1, len(script)), many):
            if is_safe_under(script, image, FromPoints(points)):
                return points
    return None
