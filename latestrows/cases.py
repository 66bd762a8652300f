"""What trees speak of, the same on all their ways: runs, labels and sums of an unknown and an integer (point 25)."""

from latestrows.claims import UNCHANGED
from latestrows.times import After, Before, Floor, Now, RowTime, Shift

# The prefixes of the labels in the runs without and with the late row.
WITHOUT = "0 "
WITH = "1 "

ASKED = "t"
LATE = "p"

# The bound that nothing keeps.
NEVER = ("t", "t", -1)


def more(total, by):
    """The sum of an unknown and an integer that is so much more than this one."""
    unknown, plus = total
    return unknown, plus + by


def at_most(low, high):
    """The bound for that one sum of an unknown and an integer is at most another one."""
    return low[0], high[0], high[1] - low[1]


def _times_in(thing):
    """The times in a time or a look, itself first if it is a time."""
    if isinstance(thing, Now):
        return [thing]
    if isinstance(thing, RowTime):
        return [thing, *_times_in(thing.look)]
    inside = _times_in(thing.time)
    return inside if isinstance(thing, (Before, After)) else [thing, *inside]


class Case:
    """The runs of a claim, which are pairs of a prefix and a reader.

    The labelled looks and times are pairs of the prefix of their run and of the look or time.
    """

    def __init__(self, claim):
        self.claim = claim
        self.setting = claim.setting
        if claim.word == UNCHANGED:
            self.late = claim.feed
            self.runs = [(WITHOUT, claim.readers[0]), (WITH, claim.readers[0])]
        else:
            self.late = None
            self.runs = [("", reader) for reader in claim.readers]
        self.labelled_looks = {}
        self.labelled_times = {}
        for prefix, reader in self.runs:
            for look in reader.looks:
                self.labelled_looks[prefix + look.text] = (prefix, look)
            for held in [thing for part in reader.parts for thing in part.held]:
                for time in _times_in(held):
                    self.labelled_times[prefix + time.text] = (prefix, time)

    def total(self, prefix, time):
        """The unknown and the integer that the value of the time is the sum of."""
        if isinstance(time, Now):
            return ASKED, 0
        if isinstance(time, Shift):
            return more(self.total(prefix, time.time), time.by)
        if isinstance(time, RowTime):
            return prefix + time.look.text, 0
        return prefix + time.text, 0

    def grid_bounds(self, prefix, time):
        """What holds of a grid time."""
        point, inside = self.total(prefix, time), self.total(prefix, time.time)
        gap = self.setting.grid[0] - 1
        if isinstance(time, Floor):
            return [at_most(point, inside), at_most(inside, more(point, gap))]
        return [at_most(inside, point), at_most(point, more(inside, gap))]

    def found_bounds(self, label):
        """What holds if the look finds a row."""
        prefix, look = self.labelled_looks[label]
        asked, row = self.total(prefix, look.time), (label, 0)
        nearest = 1 if look.strict else 0
        early, late = (row, asked) if isinstance(look, Before) else (asked, row)
        bounds = [at_most(more(early, nearest), late)]
        if look.within is not None:
            bounds.append(at_most(late, more(early, look.within)))
        return bounds

    def side_bounds(self, label, name, found):
        """What holds if a row is on the far side of the row that the look found, or of its reach; on the near side."""
        prefix, look = self.labelled_looks[label]
        asked, row = self.total(prefix, look.time), (name, 0)
        beyond = 0 if look.strict else 1
        if isinstance(look, Before):
            near = at_most(more(asked, beyond), row)
            far = at_most(row, (label, 0)) if found else self._out_of_reach(look, row, asked)
        else:
            near = at_most(more(row, beyond), asked)
            far = at_most((label, 0), row) if found else self._out_of_reach(look, asked, row)
        return far, near

    def _out_of_reach(self, look, early, late):
        return NEVER if look.within is None else at_most(more(early, look.within + 1), late)

    def is_on_grid(self, unknown):
        on_grid = self.setting.on_grid
        if unknown == ASKED:
            return self.setting.at_rows in on_grid
        if unknown == LATE:
            return self.late in on_grid
        if unknown in self.labelled_looks:
            return self.labelled_looks[unknown][1].feed in on_grid
        # What is left are grid times.
        return True

    def rounded(self, number):
        """The greatest multiple of the step that is not greater."""
        return number - number % self.setting.grid[0]
