"""The desk: a plant that is told its deeds by lines, which can be taken back, and asked by lines."""

from panelwatch.asks import is_ask, told_of
from panelwatch.deedtexts import deed_in, do_deed
from panelwatch.errors import Absent, Barred, NoLine, NoList, NotNow, PanelError
from panelwatch.forms import row_of, things_in
from panelwatch.plant import Plant
from panelwatch.words import is_list

_MOST_LINES = 40


class Desk:
    """A desk of some works."""

    def __init__(self, works):
        self._plant = Plant(works)
        # The plants as they were ahead of each deed that isn't taken back; none of them ever changes.
        self._ahead = []
        self._log = []

    def say(self, line):
        """Take a line, a deed, an ask or undo, and tell a list of texts."""
        told = self._take(line)
        self._log.append(things_in(line)[0])
        return told

    def say_all(self, lines):
        """Take lines together, and tell a list of what each tells; where one is refused, all are taken back."""
        if not is_list(lines, 0, _MOST_LINES):
            raise NoList(lines)
        plant, ahead = self._plant, list(self._ahead)
        self._log.append("begin")
        told = []
        try:
            for line in lines:
                told.append(self.say(line))
        except (PanelError, Absent, Barred):
            self._plant = plant
            self._ahead = ahead
            self._log.extend(["back", "end"])
            raise
        self._log.append("end")
        return told

    def log(self):
        """Tell the first words of all that was done, and of lines said together where they begin and end."""
        return list(self._log)

    def plant(self):
        """Tell the plant, a copy."""
        return self._plant.copied()

    def _take(self, line):
        deed = deed_in(line)
        if deed is not None:
            return self._do(deed)
        things = things_in(line)
        if things == ["undo"]:
            return self._undo(line)
        if not is_ask(things):
            raise NoLine(line)
        return told_of(self._plant, things)

    def _do(self, deed):
        plant = self._plant.copied()
        told = do_deed(plant, deed)
        self._ahead.append(self._plant)
        self._plant = plant
        if deed[0] == "choose":
            return [row_of(told)]
        if deed[0] == "come":
            return ["yes" if told else "no"]
        return [str(told)] if deed[0] == "double" else []

    def _undo(self, line):
        if not self._ahead:
            raise NotNow(line)
        self._plant = self._ahead.pop()
        return []
