"""Ways: what has been chosen of how the looks of some readers find rows (point 17)."""

from latestrows.scenes import ASKED


def first_way(scene):
    """The way on which nothing has been chosen yet; None if it cannot be gone."""
    way = Way(scene, scene.first_bounds())
    if scene.setting.at_rows is not None:
        way.rows.append((scene.setting.at_rows, ASKED))
    return way if way.settle_grid_times() else None


class Way:
    """What has been chosen, the bounds that hold therefore, and the choices that are left.

    `found` tells of the looks that were asked, by their texts, whether they
    found a row; `earlier` of the pairs of times that were compared, by their
    texts, whether the first one is at most the second one. `rows` has a pair of
    a feed and an unknown for each row of the table, and `live` has the unknowns
    that are on this way.
    """

    def __init__(self, scene, bounds):
        self.scene = scene
        self.bounds = bounds
        self.found = {}
        self.earlier = {}
        self.rows = []
        self.live = [ASKED]
        self.choices = []

    def copied(self):
        way = Way(self.scene, self.bounds.copied())
        way.found = dict(self.found)
        way.earlier = {pair: self.earlier[pair] for pair in self.earlier}
        way.rows = list(self.rows)
        way.live = list(self.live)
        way.choices = list(self.choices)
        return way

    def with_bounds(self, more):
        """The way on which these bounds hold, too; None if it cannot be gone."""
        way = self.copied()
        return way if way.keep(more) and way.narrow() else None

    def with_look(self, look, found):
        """The way on which the look, whose time is settled, finds a row, or none; None if it cannot be gone."""
        way = self.copied()
        way.found[look.text] = found
        for feed, row in self.rows:
            if feed == look.feed:
                way.choices.append(self.scene.side_choice(look, found, row))
        if found and not way.take_row(look):
            return None
        return way if way.narrow() else None

    def with_earlier(self, time, other, is_earlier):
        """The way on which the first time is at most the other one, or not; None if it cannot be gone."""
        way = self.with_bounds(self.scene.earlier_bounds(time, other, is_earlier))
        if way is not None:
            way.earlier[time.text, other.text] = is_earlier
        return way

    def take_row(self, look):
        """Adds the row that the look finds, with all that holds for it; tells whether it can be kept."""
        own = self.scene.place(look)
        for feed, row in self.rows:
            if feed == look.feed and self.scene.is_close(feed):
                self.choices.append(self.scene.order_choice(feed, row, own))
        for asked in self.scene.looks:
            if asked.feed == look.feed and asked.text in self.found and asked.text != look.text:
                self.choices.append(self.scene.side_choice(asked, self.found[asked.text], own))
        self.rows.append((look.feed, own))
        self.live.append(own)
        return self.keep(self.scene.found_bounds(look)) and self.settle_grid_times()

    def settle_grid_times(self):
        """Adds what holds for the grid times that are settled by now; tells whether it can be kept."""
        for time in self.scene.grid_times:
            place = self.scene.place(time)
            if place not in self.live and all([self.found.get(look.text, False) for look in time.looks]):
                self.live.append(place)
                if not self.keep(self.scene.grid_time_bounds(time)):
                    return False
        return True

    def keep(self, more):
        """Adds these bounds; tells whether they can be kept."""
        for x, y, most in more:
            if not self.bounds.require(x, y, most):
                return False
        return True

    def narrow(self):
        """Keeps what the choices leave no other way for; tells whether the way can still be gone."""
        again = True
        while again:
            again = False
            left = []
            for choice in self.choices:
                open_sides = [side for side in choice if not self._rules_out(side)]
                if not open_sides:
                    return False
                if len(open_sides) == 1:
                    again = True
                    if not self.keep(open_sides[0]):
                        return False
                elif not any([self._holds(side) for side in open_sides]):
                    left.append(open_sides)
            self.choices = left
        return True

    def _rules_out(self, side):
        return any([self.bounds.rules_out(x, y, most) for x, y, most in side])

    def _holds(self, side):
        return all([self.bounds.holds(x, y, most) for x, y, most in side])
