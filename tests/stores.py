"""What the tests of stores and desks need."""
import random

from helpers import lively_line, random_image
from redolots.errors import RedoError
from redolots.images import home
from redolots.machines import Lagging
from redolots.rules import FromMark, FromPoints, FromTop, Late, Rule

RULES = [Rule(), FromTop(), FromMark(), FromPoints(()), FromPoints((2,)), FromPoints((1, 3), newest=False), Late(),
         Late((0, 2)), FromTop() | Late((1,)), FromMark() | Late(), Lagging(0), Lagging(1), Lagging(9)]

PROPERTIES = ("disk", "base", "batch", "state", "position", "promised", "flushes", "total", "most_pending")


def told(store):
    """All that the properties of a store tell."""
    return {name: getattr(store, name) for name in PROPERTIES}


def do(store, deed):
    """Does a deed as run_all names it, and returns its answer."""
    word, *args = deed
    if word == "most":
        return store.change_most(*args)
    return getattr(store, word)(*args)


def answer(store, deed):
    """The answer of a deed, or the class and the attributes of the error that it raises."""
    try:
        return do(store, deed)
    except RedoError as error:
        return error.__class__, vars(error)


def random_copy(chance, blocks):
    target, source = chance.sample(range(blocks), 2)
    return ("copy", target, source, "")


def random_deed(chance, store, plain):
    """A deed that is often, but not always, allowed. So many of the lines are copies with the empty guard."""
    blocks = len(store.base)
    at = chance.randrange(-1, store.position + 2)
    line = random_copy(chance, blocks) if chance.random() < plain else lively_line(chance, blocks)
    positions = tuple(chance.randrange(store.position + 1) for _ in range(blocks))
    if chance.random() < 0.05:
        positions = positions[:-1] + (store.position + 1,)
    return chance.choice([("put", line)] * 6 + [("advance",)] * 12 + [("crash", at), ("again", at)] * 2 + [("crash", 0)]
                         + [("tear", positions)] * 3 + [("flush",), ("most", chance.randrange(0, 9))])


def histories(seed, times):
    """A source of chance, an image, a rule and how many of the lines are plain."""
    chance = random.Random(seed)
    for _ in range(times):
        for rule in RULES + [FromTop()] * 12:
            blocks = chance.choice([2, 3, 3, 4])
            plain = chance.choice([0, 0.8, 1])
            image = home(blocks) if plain else random_image(chance, blocks)
            yield chance, image, rule, plain
