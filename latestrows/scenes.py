"""What is the same on all ways in which the looks of some readers find rows (point 17).

The unknowns are numbered: 0 is the time of the question; behind it come, for
each look, the time of the row that it finds, and each grid time. A bound is a
tuple (X, Y, C) of two unknowns and an integer: X - Y is at most C. A choice is
a list of lists of bounds; it says that all bounds of one of them hold.
"""

from latestrows.bounds import no_bounds
from latestrows.times import Before, Floor, Now, RowTime, Shift, in_order

ASKED = 0


class Scene:
    """Readers that are asked on one table at one time, and the setting that this table keeps."""

    def __init__(self, readers, setting):
        self.readers = readers
        self.setting = setting
        self.looks = in_order([look for reader in readers for look in reader.looks])
        self.grid_times = in_order([time for reader in readers for time in reader.grid_times])
        unknowns = [*self.looks, *self.grid_times]
        self.places = {thing.text: place for place, thing in enumerate(unknowns, start=ASKED + 1)}

    def place(self, thing):
        """The unknown of a look or a grid time."""
        return self.places[thing.text]

    def first_bounds(self):
        asked = [ASKED] if self.setting.at_rows in self.setting.on_grid else []
        rows = [self.place(look) for look in self.looks if look.feed in self.setting.on_grid]
        grid_times = [self.place(time) for time in self.grid_times]
        return no_bounds(len(self.places) + 1, [*asked, *rows, *grid_times], self.setting.grid)

    def sum_of(self, time):
        """The unknown and the integer that the value of the time is the sum of."""
        plus = 0
        while isinstance(time, Shift):
            plus += time.by
            time = time.time
        if isinstance(time, Now):
            return ASKED, plus
        return self.place(time.look if isinstance(time, RowTime) else time), plus

    def grid_time_bounds(self, time):
        inside, plus = self.sum_of(time.time)
        point = self.place(time)
        gap = self.setting.grid[0] - 1
        if isinstance(time, Floor):
            return [(point, inside, plus), (inside, point, gap - plus)]
        return [(inside, point, -plus), (point, inside, gap + plus)]

    def earlier_bounds(self, time, other, is_earlier):
        """The bounds for that the time is at most the other one, or for that it is not."""
        first, first_plus = self.sum_of(time)
        second, second_plus = self.sum_of(other)
        if is_earlier:
            return [(first, second, second_plus - first_plus)]
        return [(second, first, first_plus - second_plus - 1)]

    def found_bounds(self, look):
        """The bounds for that the row of the look is one that counts for it."""
        asked, plus = self._asked_by(look)
        row = self.place(look)
        bounds = [(row, asked, plus - int(look.strict))]
        if look.within is not None:
            bounds.append((asked, row, look.within - plus))
        return [_turned(look, bound) for bound in bounds]

    def side_choice(self, look, found, row):
        """The choice of the sides on which this row of the feed can lie, as the look has found a row, or none."""
        asked, plus = self._asked_by(look)
        sides = [(asked, row, int(look.strict) - 1 - plus)]
        if found:
            sides.append((row, self.place(look), 0))
        elif look.within is not None:
            sides.append((row, asked, plus - look.within - 1))
        return [[_turned(look, side)] for side in sides]

    def order_choice(self, feed, row, other):
        """The choice of the orders in which two rows of the feed can lie; that they are the same row comes first."""
        distance = self.setting.distance(feed)
        return [[(row, other, 0), (other, row, 0)], [(row, other, -distance)], [(other, row, -distance)]]

    def is_close(self, feed):
        """Whether different times could be too close to one another for rows of the feed."""
        step = self.setting.grid[0] if feed in self.setting.on_grid else 1
        return self.setting.distance(feed) > step

    # What is said of a look is said of one before a time. Of one after a time the same is true with the
    # signs of all times turned, so that the unknowns of each bound change their places.
    def _asked_by(self, look):
        asked, plus = self.sum_of(look.time)
        return asked, (plus if isinstance(look, Before) else -plus)


def _turned(look, bound):
    first, second, most = bound
    return bound if isinstance(look, Before) else (second, first, most)
