"""Plans: staircases that rename without losing a value (points 49 to 52)."""
from math import factorial, perm

from redolots.errors import NoPlan, Undecided
from redolots.images import EMPTY, look
from redolots.lines import apply_line
from redolots.movement import chains, check_renaming, moving, rings


def obstacle(before, after):
    """Why no safe careful script leads from before to after, or None. Raises Undecided."""
    check_renaming(before, after)
    if before == after:
        return None
    if EMPTY not in before:
        return ("full",)
    if look(before) == look(after):
        return ("alike",)
    if not _is_crowded(before, after):
        return None
    turned = tuple(rings(before, after))
    if _is_of_one_kind(before):
        return ("rings", turned)
    raise Undecided(turned)


def judge_obstacle(before, after, reason):
    """True if the reason is right, even if obstacle names another one."""
    check_renaming(before, after)
    if before == after or reason is None:
        return False
    if reason == ("full",):
        return EMPTY not in before
    if reason == ("alike",):
        return look(before) == look(after)
    if len(reason) != 2 or reason[0] != "rings" or not _are_rings(before, after, reason[1]):
        return False
    return before.count(EMPTY) == 1 and _is_of_one_kind(before)


def plan(before, after):
    """A staircase with the fewest lines that leads from before to after. Raises Undecided or NoPlan."""
    _check_free(before, after)
    return _staircase(before, _moves(before, after))


def fewest_moves(before, after):
    """The number of lines of a plan. Raises Undecided or NoPlan."""
    _check_free(before, after)
    return len(moving(before, after)) + len(rings(before, after))


def plans(before, after):
    """A list of at most two plans that lead from before to after one after another. Raises NoPlan."""
    check_renaming(before, after)
    if before == after:
        return []
    if EMPTY not in before:
        raise NoPlan(("full",))
    if look(before) != look(after) and not _is_crowded(before, after):
        return [plan(before, after)]
    between = _between(before, after)
    return [plan(before, between), plan(between, after)]


def count_goals(blocks, values):
    """How many images are free of an obstacle from one image with so many values of one kind."""
    if blocks - values == 1:
        # The empty block goes through some of the others, in any order.
        return sum([perm(values, through) for through in range(values + 1)])
    # All images with another look, and the image itself.
    return perm(blocks, values) - factorial(values) + 1


def _check_free(before, after):
    reason = obstacle(before, after)
    if reason is not None:
        raise NoPlan(reason)


def _is_crowded(before, after):
    """True if there is a ring and only one block is empty."""
    return before.count(EMPTY) == 1 and len(rings(before, after)) > 0


def _is_of_one_kind(image):
    return len({sign for sign in look(image) if sign != "."}) < 2


def _are_rings(before, after, told):
    if not isinstance(told, tuple) or len(told) == 0:
        return False
    turned = rings(before, after)
    return all([ring in turned for ring in told])


def _moves(before, after):
    """The pairs (target, source) of the moves of a plan, in order."""
    if before == after:
        return []
    empty = [block for block, entry in enumerate(before) if entry == EMPTY]
    ways = chains(before, after)
    turned = rings(before, after)
    if not ways:
        ring = _recolored(before, after)
        turned.remove(ring)
        ways = [(empty[0], *ring, empty[0])]
    moves = _along(ways[0])
    if turned:
        moves = _around(turned, min([block for block in empty if block != ways[0][0]]), moves)
    for way in ways[1:]:
        moves = moves + _along(way)
    return moves


def _recolored(before, after):
    """The least ring that changes the look. Without chains there is one, because the looks differ."""
    changed = [block for block, sign in enumerate(look(before)) if sign != look(after)[block]]
    return min([ring for ring in rings(before, after) if any([block in changed for block in ring])])


def _around(turned, spare, moves):
    """The moves with all these rings opened before them and closed behind them.

    The moves change the look for good, so the looks behind them are not those before them,
    though the same blocks are empty again while the rings are closed.
    """
    opening = [spare] + [block for ring in turned for block in ring]
    closing = [ring[-1] for ring in turned[::-1]] + [spare]
    return _along(opening) + moves + _along(closing)


def _along(way):
    """The moves with which an empty block goes along the way."""
    return list(zip(way, way[1:]))


def _staircase(image, moves):
    """The script of these moves from the image, each with the look as its guard."""
    script = []
    for target, source in moves:
        line = ("move", target, source, look(image))
        script.append(line)
        image = apply_line(line, image)
    return script


def _between(before, after):
    """An image to which one chain leads from before, and from which chains alone lead to after.

    One empty block goes through a block of each ring, which makes the rings a part of its way back.
    """
    way = [before.index(EMPTY)] + [ring[0] for ring in rings(before, after)]
    image = before
    for target, source in _along(way):
        image = apply_line(("move", target, source, ""), image)
    return image
