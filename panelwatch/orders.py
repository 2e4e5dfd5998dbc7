"""Orders: the commands that a room chose, by their ids, and how far each of them has come."""

from panelwatch.errors import NotNow, NotThere, TooMany

_MOST_IN_TERM = 999


class Orders:
    """The orders of a room, none at first."""

    def __init__(self):
        # Of each id its command, `chosen`, `asked` or its end, and the time of its last letter and its wait.
        self._rows = {}

    def give(self, term, command):
        """Choose a command, and tell the id that it is given."""
        number = 1 + len([ident for ident in self._rows if ident[0] == term])
        if number > _MOST_IN_TERM:
            raise TooMany(number)
        self._rows[(term, number)] = (command, "chosen", None, None)
        return term, number

    def ask(self, ident, time, wait):
        """Want done what was chosen, and tell its command."""
        command = self._command_that_is(ident, ("chosen",))
        self._rows[ident] = (command, "asked", time, wait)
        return command

    def ask_again(self, ident, time):
        """Want done once more what is under way, and tell its command."""
        command = self._command_that_is(ident, ("asked",))
        self._rows[ident] = (command, "asked", time, self._rows[ident][3])
        return command

    def take_back(self, ident, time):
        """Drop what was chosen, and tell None; want back what is under way, and tell its command."""
        command = self._command_that_is(ident, ("chosen", "asked"))
        _, word, _, wait = self._rows[ident]
        if word == "chosen":
            self._rows[ident] = (command, "dropped", None, None)
            return None
        self._rows[ident] = (command, "asked", time, wait)
        return command

    def end(self, ident, word):
        """Let what is under way end with a word, and tell whether it was."""
        if ident not in self._rows or self._rows[ident][1] != "asked":
            return False
        command, _, time, wait = self._rows[ident]
        self._rows[ident] = (command, word, time, wait)
        return True

    def state(self, ident, at):
        """Tell the state of an id at a time."""
        self._check_there(ident)
        _, word, time, wait = self._rows[ident]
        return "unknown" if word == "asked" and at >= time + wait else word

    def ids(self, at):
        """Tell tuples (id, command, state) of all ids as they were given."""
        return [(ident, row[0], self.state(ident, at)) for ident, row in self._rows.items()]

    def marks(self):
        """Tell a tuple that is equal for just two that stand so."""
        return tuple([(ident, row) for ident, row in self._rows.items()])

    def copied(self):
        """Tell orders that stand just so, and go their own way."""
        twin = Orders()
        twin._rows = {ident: self._rows[ident] for ident in self._rows}
        return twin

    def _check_there(self, ident):
        if ident not in self._rows:
            raise NotThere(ident)

    def _command_that_is(self, ident, words):
        self._check_there(ident)
        command, word, _, _ = self._rows[ident]
        if word not in words:
            raise NotNow(ident)
        return command
