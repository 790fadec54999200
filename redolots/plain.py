"""The undisturbed run and the flow of a script (point 9)."""
from redolots.images import EMPTY
from redolots.lines import apply_line, check_script, kept_blocks, look_after, sources


def images(script, image):
    """The list of the images at all positions of the undisturbed run."""
    check_script(script, image)
    found = [image]
    for line in script:
        found.append(apply_line(line, found[-1]))
    return found


def plain_run(script, image):
    """The image behind the undisturbed run."""
    return images(script, image)[-1]


def flow(script, view):
    """For each block the block whose first value it holds at the end, or EMPTY."""
    origins = kept_blocks(view)
    for line in script:
        origins = [EMPTY if block == EMPTY else origins[block] for block in sources(line, view)]
        view = look_after(line, view)
    return tuple(origins)
