"""All final images of a script under a rule, and the blocks that tell the wrong ones (points 54 and 56)."""
from itertools import combinations

from redolots.errors import TooMany
from redolots.images import EMPTY, look
from redolots.lines import check_script
from redolots.network import Effects
from redolots.plain import plain_run

_MOST_PAIRS = 20000


def all_ends(script, image, rule):
    """The list of the final images of all complete runs, ascending."""
    check_script(script, image)
    pairs = _all_pairs(script, image, rule)
    return sorted({held for state, held in pairs if rule.is_end(state, len(script))})


def unnoticed(script, image, rule, blocks):
    """The list of the wrong final images that agree with the right one on these blocks, ascending."""
    finals = all_ends(script, image, rule)
    right = plain_run(script, image)
    return [final for final in finals if final != right and all([final[block] == right[block] for block in blocks])]


def telling_blocks(script, image, rule):
    """The fewest blocks, and the least such tuple, on which no wrong final image agrees with the right one."""
    right = plain_run(script, image)
    wrong = unnoticed(script, image, rule, ())
    told = sorted({tuple([now != entry for now, entry in zip(final, right)]) for final in wrong})
    # Rows with few wrong blocks refuse most tuples, so they are tried first.
    told = sorted(told, key=sum)
    for many in range(len(image) + 1):
        for blocks in combinations(range(len(image)), many):
            if _tell_all(blocks, told):
                return blocks
    # Not reached, because all blocks together tell each image that is not the right one.
    return None


def _tell_all(blocks, told):
    """True if for each row, which says which blocks are wrong, one of these blocks is."""
    for row in told:
        if not any([row[block] for block in blocks]):
            return False
    return True


def _all_pairs(script, image, rule):
    """The list of all pairs of a state and an image that runs reach. Raises TooMany."""
    effects = Effects(script)
    pairs = [(rule.first_state(), image)]
    found = {pairs[0]: True}
    done = 0
    while done < len(pairs):
        state, held = pairs[done]
        done += 1
        view = look(held)
        for step in rule.steps(state, len(script)):
            _, origins = effects.behind(view, step)
            pair = (step[1], tuple([EMPTY if block == EMPTY else held[block] for block in origins]))
            if pair not in found:
                if len(pairs) == _MOST_PAIRS:
                    raise TooMany(_MOST_PAIRS)
                found[pair] = True
                pairs.append(pair)
    return pairs
