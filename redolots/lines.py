"""Lines and scripts, guards, and what a line does (points 6 to 8)."""
from redolots.errors import InvalidLine
from redolots.images import EMPTY, check_image, look

MOST_LINES = 60

_GUARD_SIGNS = ".*-0123456789"


def check_script(script, image):
    """Raises InvalidImage or InvalidLine if this is no script for an image of this length."""
    check_image(image)
    if not isinstance(script, list) or len(script) > MOST_LINES:
        raise InvalidLine(-1)
    for at, line in enumerate(script):
        if not _is_line(line, len(image)):
            raise InvalidLine(at)


def has_guard_signs(text):
    """True if each character of the text may stand in a guard."""
    return all([sign in _GUARD_SIGNS for sign in text])


def matches(guard, view):
    """True if the guard matches the look."""
    return all([_fits(sign, seen) for sign, seen in zip(guard, view)])


def fires(line, view):
    """True if the line fires at the look."""
    op, _, source, guard = line
    return matches(guard, view) and (op == "clear" or view[source] != ".")


def sources(line, view):
    """For each block the block whose value it holds after the line, or EMPTY."""
    op, target, source, _ = line
    origins = kept_blocks(view)
    if fires(line, view):
        # The source of a clear is EMPTY, which is also what its target takes.
        origins[target] = source
        if op == "move":
            origins[source] = EMPTY
    return tuple(origins)


def kept_blocks(view):
    """The list of the sources when nothing is executed: each full block is its own source."""
    return [EMPTY if seen == "." else block for block, seen in enumerate(view)]


def apply_line(line, image):
    """The image after the line."""
    return tuple([EMPTY if block == EMPTY else image[block] for block in sources(line, look(image))])


def look_after(line, view):
    """The look after the line."""
    return "".join(["." if block == EMPTY else view[block] for block in sources(line, view)])


def _is_line(line, blocks):
    if not isinstance(line, tuple) or len(line) != 4:
        return False
    op, target, source, guard = line
    return _is_block(target, blocks) and _is_source(op, target, source, blocks) and _is_guard(guard, blocks)


def _is_block(block, blocks):
    return isinstance(block, int) and 0 <= block < blocks


def _is_source(op, target, source, blocks):
    if op == "clear":
        return isinstance(source, int) and source == EMPTY
    return op in ("copy", "move") and _is_block(source, blocks) and source != target


def _is_guard(guard, blocks):
    return isinstance(guard, str) and len(guard) in (0, blocks) and has_guard_signs(guard)


def _fits(sign, seen):
    if sign == "-":
        return True
    if sign == "*":
        return seen != "."
    return sign == seen
