"""Sessions: a scheme, facts, choices and words that are changed and asked about by lines of text."""

from seenchoices.commands import performed
from seenchoices.errors import InvalidCommand, InvalidPart, NothingToUndo
from seenchoices.schemes import check_scheme
from seenchoices.words import is_list

STEPS_BACK = ("undo", "redo")


class Session:
    """A scheme with facts, choices and words; at some costs all facts and choices hold, always."""

    def __init__(self, scheme):
        check_scheme(scheme)
        self._state = {"scheme": scheme, "facts": (), "choices": (), "words": (), "lines": ()}
        self._past = []
        self._future = []

    def __len__(self):
        return len(self._state["lines"])

    def scheme(self):
        """The present scheme."""
        return self._state["scheme"]

    def facts(self):
        """The present facts."""
        return list(self._state["facts"])

    def choices(self):
        """The present choices."""
        return list(self._state["choices"])

    def words(self):
        """The present words."""
        return list(self._state["words"])

    def done(self):
        """The lines of all changes that are in effect, the oldest first."""
        return list(self._state["lines"])

    def say(self, line):
        """Perform a command; return a list of strings."""
        if line == "undo":
            return self._undo()
        if line == "redo":
            return self._redo()
        return self.say_all([line])[0]

    def say_all(self, lines):
        """Perform commands one after another, all or none of them; return the list of what they return."""
        if not is_list(lines):
            raise InvalidPart(lines)
        for line in lines:
            if line in STEPS_BACK:
                raise InvalidCommand(line)
        state = self._state
        told = []
        for line in lines:
            state, answer = performed(state, line)
            told.append(answer)
        self._keep(state)
        return told

    def _keep(self, state):
        """Make a state the present one; questions alone are no change."""
        if len(state["lines"]) > len(self):
            self._past.append(self._state)
            self._future = []
            self._state = state

    def _undo(self):
        """Take back the latest change."""
        if not self._past:
            raise NothingToUndo()
        self._future.append(self._state)
        self._state = self._past.pop()
        return []

    def _redo(self):
        """Perform the change again that was taken back last."""
        if not self._future:
            raise NothingToUndo()
        self._past.append(self._state)
        self._state = self._future.pop()
        return []
