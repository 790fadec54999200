"""What several test files need."""
import itertools
import random
import unittest

from redolots.machines import Lagging, Machine, Workers
from redolots.rules import FromMark, FromPoints, FromTop, Late, Rule

OPS = ("copy", "move", "clear")

# A machine that executes line 1 before line 0, and one without ends.
BACKWARDS = Machine(4, ((0, 1, 1), (1, 0, 2), (2, -1, 0), (2, 2, 3), (3, 0, 2)), (2, 3))
ENDLESS = Machine(3, ((0, 0, 1), (1, 1, 2), (2, -1, 0), (2, 2, 2)), ())
RULES = [Rule(), FromTop(), FromMark(), FromPoints((2,)), FromPoints((1, 3)), FromPoints((1, 2), newest=False),
         Late(), Late((0, 2)), FromTop() | Late((1,)), FromMark() | Late(), Lagging(0), Lagging(1), Lagging(9),
         Workers(1), Workers(2), Workers(3), BACKWARDS, ENDLESS]


class Case(unittest.TestCase):
    def assertFails(self, error, attributes, call, *args, **more):
        """The call raises exactly this error with these attributes."""
        with self.assertRaises(error) as caught:
            call(*args, **more)
        self.assertIs(error, caught.exception.__class__)
        self.assertEqual(attributes, {name: getattr(caught.exception, name) for name in attributes})


def slow_matches(guard, view):
    """Point 7, written out once more."""
    for at in range(len(guard)):
        if guard[at] == "." and view[at] != ".":
            return False
        if guard[at] == "*" and view[at] == ".":
            return False
        if guard[at].isdigit() and view[at] != guard[at]:
            return False
    return True


def slow_look(image):
    """Point 5, written out once more."""
    text = ""
    for entry in image:
        text += "." if entry == -1 else f"{entry:03d}"[0]
    return text


def slow_apply(line, image):
    """Points 7 and 8, written out once more."""
    op, target, source, guard = line
    after = list(image)
    if not slow_matches(guard, slow_look(image)):
        return image
    if op == "clear":
        after[target] = -1
    elif image[source] != -1:
        after[target] = image[source]
        if op == "move":
            after[source] = -1
    return tuple(after)


def all_lines(blocks, guards):
    """Every line over so many blocks with one of the guards."""
    found = []
    for guard in guards:
        for target in range(blocks):
            found.append(("clear", target, -1, guard))
            for source in range(blocks):
                if source != target:
                    found.append(("copy", target, source, guard))
                    found.append(("move", target, source, guard))
    return found


def random_line(chance, blocks):
    """A line over so many blocks."""
    op = chance.choice(OPS)
    target = chance.randrange(blocks)
    source = chance.choice([block for block in range(blocks) if block != target] or [-1])
    if op == "clear" or source == -1:
        op, source = "clear", -1
    guard = "".join(chance.choice("--.*01") for _ in range(blocks))
    return (op, target, source, chance.choice(["", guard]))


def random_script(chance, blocks, length):
    return [random_line(chance, blocks) for _ in range(length)]


def random_image(chance, blocks):
    return tuple(chance.choice([-1, -1, chance.randrange(200), chance.randrange(1000)]) for _ in range(blocks))


def random_machine(chance, length):
    count = chance.randrange(1, 5)
    edges = tuple((chance.randrange(count), chance.randrange(-1, length + 1), chance.randrange(count))
                  for _ in range(chance.randrange(9)))
    return Machine(count, edges, tuple(chance.randrange(count) for _ in range(chance.randrange(3))))


def random_log(chance, blocks, length):
    """A copy log; for one block it is empty."""
    found = []
    for _ in range(length if blocks > 1 else 0):
        target, source = chance.sample(range(blocks), 2)
        found.append(("copy", target, source, ""))
    return found


def all_logs(blocks, most):
    """Every copy log over so many blocks with at most so many lines."""
    lines = [("copy", target, source, "") for target in range(blocks) for source in range(blocks) if target != source]
    for length in range(most + 1):
        for log in itertools.product(lines, repeat=length):
            yield list(log)


def all_goals(most):
    """All goals of up to so many blocks."""
    for blocks in range(1, most + 1):
        yield from itertools.product(range(blocks), repeat=blocks)


# From its first place each of the last states has 128 looks, and the state before them has 8.
def many_places(places):
    """A script, an image and a rule without ends, with 5000 or 5001 reachable places."""
    script = [line for block in range(7) for line in (("copy", block, 7, ""), ("clear", block, -1, ""))]
    states = places - 5000
    edges = [(state, -1, state + 1) for state in range(states + 39)]
    edges += [(states, line, states) for line in range(6)]
    edges += [(state, line, state) for state in range(states + 1, states + 40) for line in range(14)]
    return script, (0, 1, 2, 3, 4, 5, 6, 7), Machine(states + 40, tuple(edges), ())


class Slow:
    """All pairs of a state and an image that runs reach, found one by one, with their distances."""

    def __init__(self, script, image, rule):
        self.blocks = range(len(image))
        self.is_end = lambda state: rule.is_end(state, len(script))
        self.distances = {(rule.first_state(), image): 0}
        waiting = list(self.distances)
        for state, held in waiting:
            for line, after in rule.steps(state, len(script)):
                pair = (after, held if line == -1 else slow_apply(script[line], held))
                if pair not in self.distances:
                    self.distances[pair] = self.distances[(state, held)] + 1
                    waiting.append(pair)
        self.by_place = {}
        for (state, held), steps in self.distances.items():
            self.by_place.setdefault((state, slow_look(held)), []).append((held, steps))

    def places(self):
        return sorted(self.by_place)

    def end_places(self):
        return [(state, view) for state, view in self.places() if self.is_end(state)]

    def lot(self, place, block):
        return tuple(sorted({held[block] for held, _ in self.by_place[place]} - {-1}))

    def ends(self):
        """All final images of complete runs, ascending."""
        return sorted({held for state, held in self.distances if self.is_end(state)})

    def end_lot(self, block):
        return tuple(sorted({held[block] for held in self.ends()}))

    def length_to(self, place, block, value):
        """The least length of a run to the place behind which the block holds the value, or None."""
        return min([steps for held, steps in self.by_place[place] if held[block] == value], default=None)

    def wrong_length(self, right):
        """The least length of a complete run with another final image, or None."""
        return min([steps for (state, held), steps in self.distances.items()
                    if self.is_end(state) and held != right], default=None)


def lively_line(chance, blocks):
    """A line that fires at many looks."""
    op, target, source, _ = random_line(chance, blocks)
    guard = ["-"] * blocks
    guard[chance.randrange(blocks)] = chance.choice(".**01")
    return (op, target, source, chance.choice(["", "".join(guard)]))


def small_cases(seed, times):
    """Scripts, images and rules of all classes, small enough for a slow search."""
    chance = random.Random(seed)
    for at in range(times):
        blocks = chance.choice([1, 2, 3, 3, 4, 4, 4])
        length = chance.choice([0, 1, 2, 3, 4, 4, 5, 5])
        script = [lively_line(chance, blocks) for _ in range(length)]
        if at % 2:
            script = random_log(chance, blocks, length)
        values = chance.choice([(-1, 7, 7, 107), (-1, 5, 6, 7), (3, 110, 205, 206), (3, 4, 5, 6)])
        image = tuple(chance.sample(values, blocks))
        for rule in RULES + [random_machine(chance, len(script))]:
            yield script, image, rule
