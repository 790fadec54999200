"""Verdicts on scripts, and the papers that a judge checks (points 25 to 28)."""
from redolots.images import EMPTY, FREE, look
from redolots.lines import check_script
from redolots.lots import Lots
from redolots.network import step_effect
from redolots.plain import plain_run
from redolots.runs import is_complete, play


def judge_table(script, image, rule, table):
    """True if the table shows that the script is safe."""
    check_script(script, image)
    rows = {(state, view): held for state, view, held in table}
    if len(rows) < len(table) or not all([_shows(held, view) for _, view, held in table]):
        return False
    if not _begins(rows, (rule.first_state(), look(image)), image):
        return False
    if not all([_leads_on(rows, state, view, script, rule) for state, view, _ in table]):
        return False
    return _ends_alike([held for state, _, held in table if rule.is_end(state, len(script))])


def judge_runs(script, image, rule, first, second):
    """True if these are two complete runs with different final images."""
    check_script(script, image)
    if not is_complete(rule, first, len(script)) or not is_complete(rule, second, len(script)):
        return False
    return play(script, image, rule, first) != play(script, image, rule, second)


def verdict(script, image, rule):
    """Whether the script is safe, with a final image and a table, or with two runs."""
    lots = Lots(script, image, rule)
    if lots.is_safe:
        return ("safe", lots.final, lots.table())
    block = min([block for block in range(len(image)) if len(lots.end_lot(block)) > 1])
    least, other = lots.end_lot(block)[:2]
    return ("unsafe", lots.run_to_end(block, (least,)), lots.run_to_end(block, (other,)))


def wrong_run(script, image, rule):
    """A shortest complete run whose final image is not that of the undisturbed run, or None."""
    lots = Lots(script, image, rule)
    runs = []
    for block, right in enumerate(plain_run(script, image)):
        wrong = tuple([entry for entry in lots.end_lot(block) if entry != right])
        if wrong:
            runs.append(lots.run_to_end(block, wrong))
    return min(runs, key=len, default=None)


def _shows(held, view):
    """True if the row is empty exactly where the look is."""
    return all([(entry == EMPTY) == (seen == ".") for entry, seen in zip(held, view)])


def _begins(rows, place, image):
    """True if the first place has a row that agrees with the image."""
    return place in rows and all([told in (FREE, entry) for told, entry in zip(rows[place], image)])


def _leads_on(rows, state, view, script, rule):
    """True if each step from the place leads to a row that says no more than the row of the place."""
    held = rows[(state, view)]
    for step in rule.steps(state, len(script)):
        seen, origins = step_effect(script, view, step)
        place = (step[1], seen)
        if place not in rows:
            return False
        if not all([told in (FREE, EMPTY) or told == held[block] for told, block in zip(rows[place], origins)]):
            return False
    return True


def _ends_alike(finals):
    """True if all these rows are equal and leave nothing open."""
    return all([held == finals[0] and FREE not in held for held in finals])
