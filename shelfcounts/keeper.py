"""A keeper of a state: what its deeds change, and what was done."""

from shelfcounts.clashes import clashes
from shelfcounts.errors import NoThen
from shelfcounts.heaps import shut_rows
from shelfcounts.names import is_whole
from shelfcounts.states import closed_by, entered, house_now, late_ones, start, taken_back


class Keeper:
    """Keeps a state of these places and goods."""

    def __init__(self, places, goods):
        self.done = []
        # The state ahead of all deeds, and the one behind each of them.
        self.states = [start(places, goods)]

    def enter(self, entry):
        """Enters an entry, whatever it is, and tells which rows went and came."""
        return self.go_on(("enter", entry), entered(self.states[-1], entry))

    def back(self, name):
        """Takes a name back, whatever it is, and tells which rows went and came."""
        return self.go_on(("back", name), taken_back(self.states[-1], name))

    def close(self, day, mode):
        """Closes the days up to this one, whatever it is, and tells which rows went and came."""
        return self.go_on(("close", day, mode), closed_by(self.states[-1], day, mode))

    def go_on(self, deed, later):
        """Keeps a deed that was not refused and the state that came of it."""
        ahead = rows_of_all(self.house())
        self.done.append(deed)
        self.states.append(later)
        behind = rows_of_all(self.house())
        return ([row for row in ahead if row not in behind], [row for row in behind if row not in ahead])

    def house(self):
        """The house of what stands."""
        return house_now(self.states[-1])

    def then(self, many):
        """The house behind the first so many rows, whatever is handed in."""
        if not is_whole(many) or not 0 <= many <= len(self.done):
            raise NoThen("there are not so many rows")
        return house_now(self.states[many])

    def late(self):
        """What stands at another moment than told."""
        return late_ones(self.states[-1])

    def rows(self):
        """The deeds that were done and not refused."""
        return list(self.done)

    def clashing(self):
        """The goods that clash, rising."""
        now = self.house()
        return [good for good in now[1] if clashes(now, good)]


def rows_of_all(told):
    """The rows (good, names, sum) of the shut heaps of all goods of a house, rising."""
    return [(good, names, total) for good in told[1] for names, total in shut_rows(told, good)]
