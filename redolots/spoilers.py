"""What makes a copy log unsafe under a rule (points 32 to 36)."""
from redolots.copylog import idle_lines, log_pairs, matters, origins
from redolots.errors import IdleLine
from redolots.images import home
from redolots.lots import is_safe_under
from redolots.papers import wrong_run
from redolots.plain import images
from redolots.rules import FromMark, FromTop, Late


def top_spoiler(script, blocks):
    """The least position and block where a number that lasts is missing at home, or None."""
    lasting = origins(script, blocks)
    for position, image in enumerate(images(script, home(blocks))):
        for block, number in enumerate(image):
            if number != block and block in lasting:
                return (position, block)
    return None


def mark_spoiler(script, blocks):
    """The least line that writes on a block that mattered before, behind the least such position, or None."""
    mattered = {}
    for at, (target, _) in enumerate(log_pairs(script, blocks)):
        for block in matters(script, blocks, at):
            mattered.setdefault(block, at)
        if target in mattered:
            return (mattered[target], at)
    return None


def late_spoiler(script, blocks):
    """The least index of a line that a late line before it can make wrong, or None."""
    lines = log_pairs(script, blocks)
    lasting = origins(script, blocks)
    writes = {target: at for at, (target, _) in enumerate(lines)}
    for at, (target, source) in enumerate(lines):
        if writes.get(source, -1) >= writes[target] or lasting[source] != lasting[target]:
            return at
    return None


def spoiling_run(script, blocks, word):
    """A complete run under the rule of the word that ends otherwise than the undisturbed run, or None."""
    idle = idle_lines(script, blocks)
    if idle and word != "top":
        raise IdleLine(idle[0])
    return wrong_run(script, home(blocks), _rule(word))


def strength(script, blocks):
    """The first of the words late, mark and top under whose rule the log is safe, otherwise none."""
    log_pairs(script, blocks)
    for word in ("late", "mark", "top"):
        if is_safe_under(script, home(blocks), _rule(word)):
            return word
    return "none"


def _rule(word):
    match word:
        case "late":
            return Late()
        case "mark":
            return FromMark()
        case _:
            return FromTop()
