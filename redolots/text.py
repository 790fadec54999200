"""The text of a script (point 10)."""
from redolots.errors import InvalidText
from redolots.images import EMPTY
from redolots.lines import MOST_LINES, has_guard_signs

# Looking a number up here also refuses signs, leading zeros and numbers of any length.
_NUMBERS = ("0", "1", "2", "3", "4", "5", "6", "7", "8", "9", "10", "11")


def script_text(script):
    """The text of the script."""
    return "".join([_line_text(line) for line in script])


def read_script(text):
    """The script whose text this is. Raises InvalidText with the number of the first wrong line."""
    rows = text.split("\n")
    script = []
    for at, row in enumerate(rows[:-1]):
        line = _read_line(row)
        if line is None or at == MOST_LINES:
            raise InvalidText(at + 1)
        script.append(line)
    if rows[-1] != "":
        raise InvalidText(len(rows))
    return script


def _line_text(line):
    op, target, source, guard = line
    taken = "" if op == "clear" else f" <- {source}"
    condition = f" if {guard}" if guard else ""
    return f"{op} {target}{taken}{condition}\n"


def _read_line(row):
    """The line that this line of text stands for, or None."""
    words = row.split(" ")
    if words[-2:-1] != ["if"]:
        return _read_words(words, "")
    guard = words[-1]
    if not 1 <= len(guard) <= len(_NUMBERS) or not has_guard_signs(guard):
        return None
    return _read_words(words[:-2], guard)


def _read_words(words, guard):
    """The line of these words, those of the guard left out, or None."""
    match words:
        case ["clear", target] if target in _NUMBERS:
            return ("clear", int(target), EMPTY, guard)
        case [op, target, "<-", source] if op in ("copy", "move") and target != source:
            if target in _NUMBERS and source in _NUMBERS:
                return (op, int(target), int(source), guard)
    return None
