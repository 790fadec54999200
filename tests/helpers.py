"""What several test files need."""
import unittest

OPS = ("copy", "move", "clear")


class Case(unittest.TestCase):
    def assertFails(self, error, attributes, call, *args, **more):
        """The call raises exactly this error with these attributes."""
        with self.assertRaises(error) as caught:
            call(*args, **more)
        self.assertIs(error, caught.exception.__class__)
        self.assertEqual(attributes, {name: getattr(caught.exception, name) for name in attributes})


def slow_matches(guard, view):
    """Point 7, written out once more."""
    for at in range(len(guard)):
        if guard[at] == "." and view[at] != ".":
            return False
        if guard[at] == "*" and view[at] == ".":
            return False
        if guard[at].isdigit() and view[at] != guard[at]:
            return False
    return True


def slow_look(image):
    """Point 5, written out once more."""
    text = ""
    for entry in image:
        text += "." if entry == -1 else f"{entry:03d}"[0]
    return text


def slow_apply(line, image):
    """Points 7 and 8, written out once more."""
    op, target, source, guard = line
    after = list(image)
    if not slow_matches(guard, slow_look(image)):
        return image
    if op == "clear":
        after[target] = -1
    elif image[source] != -1:
        after[target] = image[source]
        if op == "move":
            after[source] = -1
    return tuple(after)


def all_lines(blocks, guards):
    """Every line over so many blocks with one of the guards."""
    found = []
    for guard in guards:
        for target in range(blocks):
            found.append(("clear", target, -1, guard))
            for source in range(blocks):
                if source != target:
                    found.append(("copy", target, source, guard))
                    found.append(("move", target, source, guard))
    return found


def random_line(chance, blocks):
    """A line over so many blocks."""
    op = chance.choice(OPS)
    target = chance.randrange(blocks)
    source = chance.choice([block for block in range(blocks) if block != target] or [-1])
    if op == "clear" or source == -1:
        op, source = "clear", -1
    guard = "".join(chance.choice("--.*01") for _ in range(blocks))
    return (op, target, source, chance.choice(["", guard]))


def random_script(chance, blocks, length):
    return [random_line(chance, blocks) for _ in range(length)]


def random_image(chance, blocks):
    return tuple(chance.choice([-1, -1, chance.randrange(200), chance.randrange(1000)]) for _ in range(blocks))
