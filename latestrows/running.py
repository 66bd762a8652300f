"""Runs readers on tables (points 8 to 11 and 13)."""

from latestrows.kinds import check_grid, check_time
from latestrows.readers import Constant, Else, Missing, Value, check_reader
from latestrows.settings import check_grid_for
from latestrows.tables import check_table
from latestrows.times import Before, Ceil, Floor, Now, Shift, check_look


def find(look, table, time, *, grid=None):
    """The row that the look finds, or None."""
    check_look(look)
    _check_asked([look], table, time, grid)
    return Run(table, time, grid).row(look)


def outcome(reader, table, time, *, grid=None):
    """The row whose value the reader gives, or ("constant", N), or None for nothing."""
    check_reader(reader)
    _check_asked([reader], table, time, grid)
    return Run(table, time, grid).outcome_of(reader)


def read(reader, table, time, *, grid=None):
    """The integer that the reader gives, or None for nothing."""
    check_reader(reader)
    _check_asked([reader], table, time, grid)
    given = Run(table, time, grid).outcome_of(reader)
    if given is None:
        return None
    # The integer stands last both in a row and in the outcome of a constant.
    return given[-1]


def _check_asked(asked, table, time, grid):
    check_table(table)
    check_time(time)
    check_grid(grid)
    check_grid_for(asked, grid)


class Run:
    """A table, a time at which it is asked, and the grid."""

    def __init__(self, table, time, grid):
        self.table = table
        self.time = time
        self.grid = grid

    def time_value(self, time):
        """The value of the time; None if it fails."""
        if isinstance(time, Now):
            return self.time
        if isinstance(time, (Shift, Floor, Ceil)):
            inside = self.time_value(time.time)
            return None if inside is None else self._moved(time, inside)
        row = self.row(time.look)
        return None if row is None else row[1]

    def _moved(self, time, inside):
        if isinstance(time, Shift):
            return inside + time.by
        step, offset = self.grid
        if isinstance(time, Floor):
            return inside - (inside - offset) % step
        return inside + (offset - inside) % step

    def row(self, look):
        """The row that the look finds; None if it finds none."""
        asked = self.time_value(look.time)
        if asked is None:
            return None
        is_before = isinstance(look, Before)
        found = None
        for row in self.table:
            distance = asked - row[1] if is_before else row[1] - asked
            # Rows ascend, so that of those that count the last one is the latest, and the first one the earliest.
            if row[0] == look.feed and _counts(look, distance) and (is_before or found is None):
                found = row
        return found

    def outcome_of(self, reader):
        if isinstance(reader, Missing):
            return None
        if isinstance(reader, Constant):
            return ("constant", reader.number)
        if isinstance(reader, Value):
            return self.row(reader.look)
        if isinstance(reader, Else):
            first = self.outcome_of(reader.first)
            return self.outcome_of(reader.second) if first is None else first
        return self._outcome_if_earlier(reader)

    def _outcome_if_earlier(self, reader):
        time, other = self.time_value(reader.time), self.time_value(reader.other)
        if time is None or other is None:
            return None
        return self.outcome_of(reader.first if time <= other else reader.second)


def _counts(look, distance):
    if distance < 0 or (look.strict and distance == 0):
        return False
    return look.within is None or distance <= look.within
