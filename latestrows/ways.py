"""Ways: what has been chosen of how the looks of some readers find rows (point 17)."""

from latestrows.scenes import ASKED, LATE


def first_way(scene):
    """The way on which nothing has been chosen yet; None if it cannot be gone."""
    way = Way(scene, scene.first_bounds())
    return way if way.begin() and way.narrow() else None


class Way:
    """What has been chosen, the bounds that hold therefore, and the choices that are left.

    `found` tells of the looks that were asked, by their labels, whether they
    found a row; `earlier` of the pairs of times that were compared, by their
    labels, whether the first one is at most the second one; `orders` of the
    pairs of rows that were put in order, by their unknowns, which side of their
    choice was taken. `rows` has a pair of a feed and an unknown for each row of
    the table, and `live` has the unknowns that are on this way.
    """

    def __init__(self, scene, bounds):
        self.scene = scene
        self.bounds = bounds
        self.found = {}
        self.earlier = {}
        self.orders = {}
        self.rows = []
        self.live = [ASKED]
        self.choices = []

    def copied(self):
        way = Way(self.scene, self.bounds.copied())
        way.found = dict(self.found)
        way.earlier = {pair: self.earlier[pair] for pair in self.earlier}
        way.orders = {pair: self.orders[pair] for pair in self.orders}
        way.rows = list(self.rows)
        way.live = list(self.live)
        way.choices = list(self.choices)
        return way

    def with_bounds(self, more):
        """The way on which these bounds hold, too; None if it cannot be gone."""
        way = self.copied()
        return way if way.keep(more) and way.narrow() else None

    def with_look(self, look, found):
        """The way on which the look, whose time is settled, finds a row, or none; None if it cannot be gone."""
        way = self.copied()
        return way if way.ask(look, found) and way.narrow() else None

    def with_earlier(self, prefix, reader, is_earlier):
        """The way on which the first time of the reader is at most its other one, or not; None likewise."""
        way = self.copied()
        return way if way.compare(prefix, reader, is_earlier) and way.narrow() else None

    def begin(self):
        """Adds what holds from the start; tells whether it can be kept."""
        if self.scene.setting.at_rows is not None:
            self._take_row(self.scene.setting.at_rows, ASKED)
        if self.scene.late is not None:
            self._take_row(self.scene.late, LATE)
            self.live.append(LATE)
        return self._settle_grid_times()

    def ask(self, look, found):
        """Adds that the look finds a row, or none, with all that holds for it; tells whether it can be kept."""
        self.found[look.label] = found
        for feed, row in self.rows:
            if feed == look.feed:
                self._take_side(look, row)
        if not found:
            return True
        self._take_row(look.feed, look.place)
        self.live.append(look.place)
        return self.keep(self.scene.found_bounds(look)) and self._settle_grid_times()

    def compare(self, prefix, reader, is_earlier):
        """Adds that the first time of the reader is at most its other one, or not; tells whether it can be kept."""
        self.earlier[prefix + reader.time.text, prefix + reader.other.text] = is_earlier
        return self.keep(self.scene.earlier_bounds(prefix, reader.time, reader.other, is_earlier))

    def _take_row(self, feed, own):
        for other_feed, row in self.rows:
            if other_feed == feed and self.scene.needs_order(feed, row, own):
                self.choices.append(self.scene.order_choice(feed, row, own))
        for label in self.found:
            look = self.scene.labelled_looks[label]
            if look.feed == feed and look.place != own:
                self._take_side(look, own)
        self.rows.append((feed, own))

    def _take_side(self, look, row):
        if self.scene.sees(look, row):
            self.choices.append(self.scene.side_choice(look, self.found[look.label], row))

    def _settle_grid_times(self):
        """Adds what holds for the grid times that are settled by now; tells whether it can be kept."""
        for label in self.scene.labelled_grid_times:
            prefix, time = self.scene.labelled_grid_times[label]
            place = self.scene.places[label]
            if place not in self.live and all([self.found.get(prefix + look.text, False) for look in time.looks]):
                self.live.append(place)
                if not self.keep(self.scene.grid_time_bounds(label)):
                    return False
        return True

    def keep(self, more):
        """Adds these bounds; tells whether they can be kept."""
        for x, y, most in more:
            if not self.bounds.require(x, y, most):
                return False
        return True

    def narrow(self):
        """Keeps what the choices leave no other way for; tells whether the way can still be gone."""
        again = True
        while again:
            again = False
            left = []
            for choice in self.choices:
                open_sides = self.open_sides(choice)
                if not open_sides:
                    return False
                if len(open_sides) == 1:
                    again = True
                    if not self.keep(open_sides[0]):
                        return False
                elif not self.decides(choice):
                    left.append(choice.narrowed(open_sides))
            self.choices = left
        return True

    def open_sides(self, choice):
        """The sides of the choice that the bounds do not rule out."""
        return [side for side in choice.sides if not self._rules_out(side)]

    def decides(self, choice):
        """Whether one of the sides follows from the bounds."""
        return any([self._holds(side) for side in choice.sides])

    def _rules_out(self, side):
        return any([self.bounds.rules_out(x, y, most) for x, y, most in side])

    def _holds(self, side):
        return all([self.bounds.holds(x, y, most) for x, y, most in side])
