"""Runs of a script under a restart rule (points 11 and 12)."""
from redolots.errors import InvalidRun
from redolots.lines import apply_line, check_script
from redolots.rules import Rule


def undisturbed(length):
    """The run that executes each line once."""
    return [(position, (position + 1,)) for position in range(length)]


def is_run(rule, run, length):
    """True if this is a run of the rule for scripts of this length."""
    return _state_behind(rule, run, length) is not None


def is_complete(rule, run, length):
    """True if this is a complete run of the rule for scripts of this length."""
    state = _state_behind(rule, run, length)
    return state is not None and rule.is_end(state, length)


def executed(run):
    """The tuple of the lines that the run executes."""
    return tuple([step[0] for step in run if not Rule.is_restart(step)])


def play(script, image, rule, run):
    """The final image of the run."""
    shown = list(trail(script, image, rule, run))
    return shown[-1]


def trail(script, image, rule, run):
    """Yields the image at the beginning and the image after each step."""
    check_script(script, image)
    # The caller may change these lists between two images.
    lines = list(script)
    taken = list(run)
    state = rule.first_state()
    yield image
    for at, step in enumerate(taken):
        if not _is_possible(rule, state, step, len(lines)):
            raise InvalidRun(at)
        line, state = step
        if not Rule.is_restart(step):
            image = apply_line(lines[line], image)
        yield image


def _is_possible(rule, state, step, length):
    return step in rule.steps(state, length)


def _state_behind(rule, run, length):
    """The state to which the run leads, or None if it is not a run."""
    state = rule.first_state()
    for step in run:
        if not _is_possible(rule, state, step, length):
            return None
        state = step[1]
    return state
