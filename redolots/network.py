"""The reachable places of a script under a rule, and the steps between them (point 21)."""
from redolots.errors import TooMany
from redolots.images import look
from redolots.lines import check_script, kept_blocks, look_after, sources
from redolots.rules import Rule

MOST_PLACES = 5000


class Network:
    """All reachable places, numbered from the first place on, and all steps between them.

    A step is kept as a triple of a number of a place, its sources and the step itself: under onward
    at the place where it starts, with the place to which it leads, and under backward the other way.
    """

    def __init__(self, script, image, rule):
        check_script(script, image)
        self.image = image
        self.found = []
        self.numbers = {}
        self.onward = []
        self.backward = []
        self._number((rule.first_state(), look(image)))
        self._explore(script, rule)
        self.end_numbers = [number for number, (state, _) in enumerate(self.found)
                            if rule.is_end(state, len(script))]

    def shortest_run(self, ends, wanted):
        """A shortest run that leads to one of the ends, or None.

        An end is a pair of the number of a place and a tuple of blocks that are full there. The value
        that the k-th of these blocks holds behind the run is one of the entries wanted[k].
        """
        came = {end: None for end in ends}
        waiting = list(came)
        done = 0
        while done < len(waiting):
            here = waiting[done]
            done += 1
            if self._is_beginning(here, wanted):
                return _steps_behind(came, here)
            number, blocks = here
            for before, origins, step in self.backward[number]:
                earlier = (before, tuple([origins[block] for block in blocks]))
                if earlier not in came:
                    came[earlier] = (here, step)
                    waiting.append(earlier)
        return None

    def _is_beginning(self, here, wanted):
        number, blocks = here
        return number == 0 and all([self.image[block] in entries for block, entries in zip(blocks, wanted)])

    def _explore(self, script, rule):
        effects = Effects(script)
        while len(self.onward) < len(self.found):
            here = len(self.onward)
            state, view = self.found[here]
            self.onward.append([])
            for step in rule.steps(state, len(script)):
                seen, origins = effects.behind(view, step)
                after = self._number((step[1], seen))
                self.onward[here].append((after, origins, step))
                self.backward[after].append((here, origins, step))

    def _number(self, place):
        """The number of the place, which gets one if it is new."""
        if place not in self.numbers:
            if len(self.found) == MOST_PLACES:
                raise TooMany(MOST_PLACES)
            self.numbers[place] = len(self.found)
            self.found.append(place)
            self.backward.append([])
        return self.numbers[place]


class Effects:
    """What the steps of a script do at a look. Places share their looks, so what was found is kept."""

    def __init__(self, script):
        self.script = script
        self.known = {}

    def behind(self, view, step):
        """The look behind a step that is taken at the look, and the sources of the step."""
        key = (step[0], view)
        if key not in self.known:
            self.known[key] = step_effect(self.script, view, step)
        return self.known[key]


def step_effect(script, view, step):
    """The look behind a step that is taken at the look, and the sources of the step."""
    if Rule.is_restart(step):
        return view, tuple(kept_blocks(view))
    line = script[step[0]]
    return look_after(line, view), sources(line, view)


def _steps_behind(came, here):
    """The steps that lead on from here to the end at which the search began."""
    steps = []
    while came[here] is not None:
        here, step = came[here]
        steps.append(step)
    return steps
