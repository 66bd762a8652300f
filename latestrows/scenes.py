"""What is the same on all ways in which the looks of some readers find rows (points 17 and 19).

The unknowns are numbered: 0 is the time of the question; 1 is the time of the
late row, if there is one; behind them come, for each look, the time of the row
that it finds, and each grid time. A bound is a tuple (X, Y, C) of two unknowns
and an integer: X - Y is at most C.
"""

from latestrows.bounds import no_bounds
from latestrows.times import Before, Floor, Now, RowTime, Shift

ASKED = 0
LATE = 1

# The runs of a reader on the table without the late row, and on the table with it. The labels of the
# times and looks of a run are their texts behind this prefix; where no row is late, there is no prefix.
WITHOUT = "0 "
WITH = "1 "

# What a choice chooses: on which side of a look a row lies, the same where the row might be the late one,
# which the look does not see, or in which order two rows lie.
SIDE = "side"
LATE_SIDE = "late side"
ORDER = "order"

# A bound that nothing keeps.
NEVER = (0, 0, -1)


def late_scene(reader, feed, setting):
    """The reader, asked on a table without a late row of the feed, and on the table with it."""
    return Scene([(WITHOUT, reader), (WITH, reader)], setting, feed)


class RunLook:
    """A look in a run, with its label and the unknown for the time of the row that it finds."""

    def __init__(self, prefix, look, place):
        self.prefix = prefix
        self.look = look
        self.feed = look.feed
        self.label = prefix + look.text
        self.place = place


class Choice:
    """All that can be of two rows, or of a look and a row: the bounds of one of the sides hold.

    `first` and `second` are two unknowns or the label of a look and an unknown.
    """

    def __init__(self, word, first, second, sides):
        self.word = word
        self.first = first
        self.second = second
        self.sides = sides

    def narrowed(self, sides):
        return Choice(self.word, self.first, self.second, sides)


class Scene:
    """Readers that are asked at one time, the setting that their table keeps, and perhaps the feed of a late row.

    `runs` are pairs of a prefix and a reader.
    """

    def __init__(self, runs, setting, late=None):
        self.runs = runs
        self.setting = setting
        self.late = late
        self.names = ["t"] if late is None else ["t", "p"]
        self.labelled_looks = {}
        self.labelled_grid_times = {}
        for prefix, reader in runs:
            for look in reader.looks:
                if prefix + look.text not in self.labelled_looks:
                    self.labelled_looks[prefix + look.text] = RunLook(prefix, look, len(self.names))
                    self.names.append(prefix + look.text)
        for prefix, reader in runs:
            for time in reader.grid_times:
                if prefix + time.text not in self.labelled_grid_times:
                    self.labelled_grid_times[prefix + time.text] = (prefix, time)
                    self.names.append(prefix + time.text)
        self.places = {name: place for place, name in enumerate(self.names)}

    def first_bounds(self):
        on_grid = [ASKED] if self.setting.at_rows in self.setting.on_grid else []
        if self.late in self.setting.on_grid:
            on_grid.append(LATE)
        for look in list(self.labelled_looks.values()):
            if look.feed in self.setting.on_grid:
                on_grid.append(look.place)
        for label in self.labelled_grid_times:
            on_grid.append(self.places[label])
        return no_bounds(len(self.names), on_grid, self.setting.grid)

    def sum_of(self, prefix, time):
        """The unknown and the integer that the value of the time is the sum of."""
        plus = 0
        while isinstance(time, Shift):
            plus += time.by
            time = time.time
        if isinstance(time, Now):
            return ASKED, plus
        inside = time.look if isinstance(time, RowTime) else time
        return self.places[prefix + inside.text], plus

    def grid_time_bounds(self, label):
        prefix, time = self.labelled_grid_times[label]
        inside, plus = self.sum_of(prefix, time.time)
        point = self.places[label]
        gap = self.setting.grid[0] - 1
        if isinstance(time, Floor):
            return [(point, inside, plus), (inside, point, gap - plus)]
        return [(inside, point, -plus), (point, inside, gap + plus)]

    def earlier_bounds(self, prefix, time, other, is_earlier):
        """The bounds for that the time is at most the other one, or for that it is not."""
        first, first_plus = self.sum_of(prefix, time)
        second, second_plus = self.sum_of(prefix, other)
        if is_earlier:
            return [(first, second, second_plus - first_plus)]
        return [(second, first, first_plus - second_plus - 1)]

    def found_bounds(self, look):
        """The bounds for that the row of the look is one that counts for it."""
        asked, plus = self._asked_by(look)
        bounds = [(look.place, asked, plus - int(look.look.strict))]
        if look.look.within is not None:
            bounds.append((asked, look.place, look.look.within - plus))
        return [_turned(look, bound) for bound in bounds]

    def side_choice(self, look, found, row):
        """The choice of the sides on which this row of the feed can lie, as the look has found a row, or none."""
        asked, plus = self._asked_by(look)
        if found:
            inner = _turned(look, (row, look.place, 0))
        elif look.look.within is not None:
            inner = _turned(look, (row, asked, plus - look.look.within - 1))
        else:
            inner = NEVER
        outer = _turned(look, (asked, row, int(look.look.strict) - 1 - plus))
        if self._may_be_unseen(look, row):
            return Choice(LATE_SIDE, look.label, row, [[(row, LATE, 0), (LATE, row, 0)], [inner], [outer]])
        return Choice(SIDE, look.label, row, [[inner], [outer]])

    def order_choice(self, feed, row, other):
        """The choice of the orders in which two rows of the feed can lie; that they are the same stands between."""
        distance = self.setting.distance(feed)
        same = [(row, other, 0), (other, row, 0)]
        if self._must_differ(row, other):
            same.append(NEVER)
        return Choice(ORDER, row, other, [[(row, other, -distance)], same, [(other, row, -distance)]])

    def needs_order(self, feed, row, other):
        """Whether rows of the feed at these unknowns could be too close, or the same where they must not be."""
        step = self.setting.grid[0] if feed in self.setting.on_grid else 1
        return self.setting.distance(feed) > step or self._must_differ(row, other)

    def sees(self, look, row):
        """Whether the row is in the table of the look, or might be."""
        return look.prefix == WITH or row != LATE or self.late is None

    def _may_be_unseen(self, look, row):
        return look.prefix == WITHOUT and look.feed == self.late and self.names[row].startswith(WITH)

    def _must_differ(self, row, other):
        # The late row is none of the table without it; of the rows of the other table it may be any.
        if self.late is None or LATE not in (row, other):
            return False
        return not self.names[other if row == LATE else row].startswith(WITH)

    # What is said of a look is said of one before a time. Of one after a time the same is true with the
    # signs of all times turned, so that the unknowns of each bound change their places.
    def _asked_by(self, look):
        asked, plus = self.sum_of(look.prefix, look.look.time)
        return asked, (plus if isinstance(look.look, Before) else -plus)


def _turned(look, bound):
    first, second, most = bound
    return bound if isinstance(look.look, Before) else (second, first, most)
