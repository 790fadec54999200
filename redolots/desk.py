"""A store that records its deeds, so that they can be undone and redone (points 62 and 63)."""
from redolots.errors import InvalidDeed, NothingToRedo, NothingToUndo
from redolots.store import Store


class Desk(Store):
    """A store whose deeds can be undone and redone.

    What a deed changes is kept as a whole: a store is small, and its parts are never changed in place.
    """

    def __init__(self, image, rule, *, most=20):
        super().__init__(image, rule, most=most)
        self._past = []
        self._future = []

    @property
    def undoable(self):
        """How many deeds can be undone."""
        return len(self._past)

    @property
    def redoable(self):
        """How many deeds can be redone."""
        return len(self._future)

    def put(self, line):
        """Appends the line to the batch, and returns True if the batch was flushed before."""
        before = self.kept()
        answer = super().put(line)
        self._note(before)
        return answer

    def advance(self):
        """Executes the line at the position, and returns True if there is one."""
        before = self.kept()
        answer = super().advance()
        self._note(before)
        return answer

    def crash(self, to):
        """Takes the restart that leads to the position."""
        before = self.kept()
        super().crash(to)
        self._note(before)

    def again(self, at):
        """Executes a line once more, and leaves the position as it is."""
        before = self.kept()
        super().again(at)
        self._note(before)

    def tear(self, positions):
        """A crash from the top behind which each block has its entry of another position."""
        before = self.kept()
        super().tear(positions)
        self._note(before)

    def flush(self):
        """Executes the rest of the batch, makes the disk the base, and returns how many lines were executed."""
        before = self.kept()
        answer = super().flush()
        self._note(before)
        return answer

    def change_most(self, value):
        """Sets how long a batch may become."""
        before = self.kept()
        super().change_most(value)
        self._note(before)

    def undo(self):
        """Takes back the last deed."""
        if not self._past:
            raise NothingToUndo()
        self._future.append(self.kept())
        self.take_back(self._past.pop())

    def redo(self):
        """Brings back what the last undo took back."""
        if not self._future:
            raise NothingToRedo()
        self._past.append(self.kept())
        self.take_back(self._future.pop())

    def run_all(self, deeds):
        """Does all deeds as one, and returns the list of their answers."""
        # A plain store does them first, so that an error in the middle changes nothing here.
        trial = Store(self.base, self._rule)
        trial.take_back(self.kept())
        answers = [_answer(trial, deed, at) for at, deed in enumerate(deeds)]
        if answers:
            self._note(self.kept())
            self.take_back(trial.kept())
        return answers

    def _note(self, before):
        """Makes what was kept before a new deed the last that can be taken back."""
        self._past.append(before)
        self._future = []


def _answer(store, deed, at):
    """Does the deed, which has the index at in its list."""
    if not isinstance(deed, tuple):
        raise InvalidDeed(at)
    match deed:
        case ("put", line):
            return store.put(line)
        case ("advance",):
            return store.advance()
        case ("crash", to):
            return store.crash(to)
        case ("again", line):
            return store.again(line)
        case ("tear", positions):
            return store.tear(positions)
        case ("flush",):
            return store.flush()
        case ("most", value):
            return store.change_most(value)
        case _:
            raise InvalidDeed(at)
