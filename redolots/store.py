"""A store that never loses a line (points 57 to 61)."""
from redolots.copylog import pairs
from redolots.errors import InvalidImage, InvalidMost, InvalidRule, NotAllowed, TooMany
from redolots.images import EMPTY, check_image, home
from redolots.lines import apply_line, check_script
from redolots.lots import Lots, is_safe_under
from redolots.machines import Lagging
from redolots.rules import FromTop, Rule, is_between, is_simple


class Store:
    """A disk on which lines are executed under a restart rule.

    The lines wait in a batch, which is safe under the rule from the base, until they are flushed.
    """

    LIMIT = 30

    def __init__(self, image, rule, *, most=20):
        check_image(image)
        if not is_simple(rule) and not isinstance(rule, Lagging):
            raise InvalidRule()
        self._check_most(most)
        self._rule = rule
        self._base = image
        self._disk = image
        self._promised = image
        self._batch = ()
        self._most = most
        self._flushes = 0
        self._total = 0
        self._begin(rule.first_state())

    @classmethod
    def at_home(cls, blocks, rule):
        """A new store with the home image."""
        return cls(home(blocks), rule)

    @property
    def disk(self):
        """The image that lies there now."""
        return self._disk

    @property
    def base(self):
        """The image from which the batch starts."""
        return self._base

    @property
    def batch(self):
        """The list of the lines put since the base was set."""
        return list(self._batch)

    @property
    def state(self):
        """The state of the rule."""
        return self._state

    @property
    def position(self):
        """The number of lines of the batch behind which the store stands."""
        return self._state[0]

    @property
    def promised(self):
        """The final image of the undisturbed run of all lines that were ever put."""
        return self._promised

    @property
    def flushes(self):
        """How many batches have been flushed."""
        return self._flushes

    @property
    def total(self):
        """How many lines have been put."""
        return self._total

    @property
    def most_pending(self):
        """How long a batch may become."""
        return self._most

    @most_pending.setter
    def most_pending(self, value):
        self.change_most(value)

    def put(self, line):
        """Appends the line to the batch, and returns True if the batch was flushed before."""
        check_script([line], self._base)
        flushed = len(self._batch) > 0 and not self._may_join(line)
        if flushed:
            self._empty_batch()
        self._batch = self._batch + (line,)
        self._promised = apply_line(line, self._promised)
        self._total += 1
        return flushed

    def advance(self):
        """Executes the line at the position, and returns True if there is one."""
        if self.position == len(self._batch):
            return False
        line, state = self._steps()[0]
        self._disk = apply_line(self._batch[line], self._disk)
        self._state = state
        self._shown = self._shown + (self._disk,)
        return True

    def crash(self, to):
        """Takes the restart that leads to the position."""
        for step in self._steps():
            if Rule.is_restart(step) and step[1][0] == to:
                self._begin(step[1])
                return
        raise NotAllowed(to)

    def again(self, at):
        """Executes a line once more, and leaves the position as it is."""
        for line, state in self._steps():
            if line == at and state[0] == self.position:
                self._disk = apply_line(self._batch[line], self._disk)
                self._state = state
                return
        raise NotAllowed(at)

    def tear(self, positions):
        """A crash from the top behind which each block has its entry of another position."""
        if not isinstance(self._rule, FromTop):
            raise InvalidRule()
        if EMPTY in self._base:
            raise InvalidImage(self._base.index(EMPTY))
        pairs(self._batch)
        for position in positions:
            if not is_between(position, 0, self.position):
                raise NotAllowed(position)
        self._disk = tuple([self._shown[position][block] for block, position in enumerate(positions)])
        self._begin(self._rule.first_state())

    def flush(self):
        """Executes the rest of the batch, makes the disk the base, and returns how many lines were executed."""
        return self._empty_batch()

    def change_most(self, value):
        """Sets how long a batch may become."""
        self._check_most(value)
        self._most = value

    def paper(self):
        """The table that shows that the batch is safe."""
        return Lots(list(self._batch), self._base, self._rule).table()

    def kept(self):
        """All that deeds change, as a tuple for take_back."""
        return (self._disk, self._base, self._batch, self._state, self._shown, self._promised, self._most,
                self._flushes, self._total)

    def take_back(self, kept):
        """Makes the store as it was when it returned this tuple."""
        self._disk, self._base, self._batch, self._state, self._shown, self._promised, self._most = kept[:7]
        self._flushes, self._total = kept[7:]

    def _check_most(self, value):
        if not is_between(value, 1, self.LIMIT):
            raise InvalidMost(value)

    def _steps(self):
        return self._rule.steps(self._state, len(self._batch))

    def _begin(self, state):
        """Goes to the state of a beginning. From here on the disk at each position is kept for torn crashes."""
        self._state = state
        self._shown = (self._disk,)

    def _may_join(self, line):
        """True if the batch stays short enough and safe with the line."""
        if len(self._batch) >= self._most:
            return False
        try:
            return is_safe_under(list(self._batch) + [line], self._base, self._rule)
        except TooMany:
            return False

    def _empty_batch(self):
        """Does what flush does. A put calls this, so that it is one deed of a store that records."""
        if not self._batch:
            return 0
        waiting = self._batch[self.position:]
        for line in waiting:
            self._disk = apply_line(line, self._disk)
        self._base = self._disk
        self._batch = ()
        self._flushes += 1
        self._begin(self._rule.first_state())
        return len(waiting)
