"""Settings: what is known about all tables and times of a question (point 15)."""

from latestrows.errors import InvalidApart, InvalidFeeds, InvalidText, LatestError, NoGrid, NotASetting
from latestrows.kinds import check_grid, check_name, check_time, integer_in, integer_text, is_integer, is_name
from latestrows.limits import MAX_DISTANCE
from latestrows.tables import check_table


def check_setting(value):
    if not isinstance(value, Setting):
        raise NotASetting(value)


def check_setting_for(readers, setting):
    """Raises the errors of a setting with which these readers are to be asked."""
    check_setting(setting)
    check_grid_for(readers, setting.grid)


def check_grid_for(asked, grid):
    """Raises NoGrid if one of the readers or looks that are asked has grid times, and there is no grid."""
    if grid is None and any([len(thing.grid_times) > 0 for thing in asked]):
        raise NoGrid()


def stands_on(grid, time):
    step, offset = grid
    return (time - offset) % step == 0


def _is_distance(value):
    if not isinstance(value, tuple) or len(value) != 2:
        return False
    feed, distance = value
    return is_name(feed) and is_integer(distance) and 1 <= distance <= MAX_DISTANCE


def _check_apart(apart):
    if not isinstance(apart, tuple):
        raise InvalidApart(None)
    feeds = set()
    for index, pair in enumerate(apart):
        if not _is_distance(pair) or pair[0] in feeds:
            raise InvalidApart(index)
        feeds.add(pair[0])


def _check_feeds(feeds, grid):
    if not isinstance(feeds, tuple):
        raise InvalidFeeds(None)
    for index, feed in enumerate(feeds):
        if not is_name(feed) or feed in feeds[:index]:
            raise InvalidFeeds(index)
    if len(feeds) > 0 and grid is None:
        raise InvalidFeeds(None)


def _setting_text(setting):
    parts = []
    if setting.grid is not None:
        parts.append(["grid", integer_text(setting.grid[0]), integer_text(setting.grid[1])])
    for feed, distance in setting.apart:
        parts.append(["apart", feed, integer_text(distance)])
    for feed in setting.on_grid:
        parts.append(["on", feed])
    if setting.at_rows is not None:
        parts.append(["at", setting.at_rows])
    if not parts:
        return "any"
    return "; ".join([" ".join(words) for words in parts])


# Reads more than the texts of settings, such as parts in another order; the text of what was read tells.
def _setting_in(text):
    if text == "any":
        return Setting()
    grid, apart, on_grid, at_rows = None, [], [], None
    for part in text.split("; "):
        word, *more = part.split(" ")
        if word == "grid" and len(more) == 2:
            grid = (integer_in(more[0]), integer_in(more[1]))
        elif word == "apart" and len(more) == 2:
            apart.append((more[0], integer_in(more[1])))
        elif word == "on" and len(more) == 1:
            on_grid.append(more[0])
        elif word == "at" and len(more) == 1:
            at_rows = more[0]
        else:
            raise InvalidText(part)
    return Setting(grid=grid, apart=tuple(apart), on_grid=tuple(on_grid), at_rows=at_rows)


class Setting:
    """A grid or none, how far apart rows are, which feeds are on the grid, and at whose rows questions are asked."""

    def __init__(self, *, grid=None, apart=(), on_grid=(), at_rows=None):
        check_grid(grid)
        _check_apart(apart)
        _check_feeds(on_grid, grid)
        if at_rows is not None:
            check_name(at_rows)
        self.grid = grid
        self.apart = tuple(sorted(apart))
        self.on_grid = tuple(sorted(on_grid))
        self.at_rows = at_rows
        self.text = _setting_text(self)

    def distance(self, feed):
        check_name(feed)
        return dict(self.apart).get(feed, 1)

    def keeps(self, table):
        check_table(table)
        for feed in table.feeds:
            row_times = list(table.times(feed))
            distance = self.distance(feed)
            if any([later - earlier < distance for earlier, later in zip(row_times, row_times[1:])]):
                return False
            if feed in self.on_grid and not all([stands_on(self.grid, time) for time in row_times]):
                return False
        return True

    def asks(self, table, time):
        check_table(table)
        check_time(time)
        return self.at_rows is None or time in list(table.times(self.at_rows))

    def with_rows_of(self, feed):
        check_name(feed)
        return Setting(grid=self.grid, apart=self.apart, on_grid=self.on_grid, at_rows=feed)

    @staticmethod
    def read(text):
        if not isinstance(text, str):
            raise InvalidText(text)
        try:
            setting = _setting_in(text)
        except LatestError:
            raise InvalidText(text) from None
        if setting.text != text:
            raise InvalidText(text)
        return setting

    def __eq__(self, other):
        return isinstance(other, Setting) and self.text == other.text

    def __str__(self):
        return str(self.text)

    def __repr__(self):
        return f"Setting({self.text})"
