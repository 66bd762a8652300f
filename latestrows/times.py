"""The times and the looks of readers (points 9 and 10)."""

from latestrows.errors import InvalidNumber, InvalidStrict, InvalidWithin, NotALook, NotATime, TooMany
from latestrows.kinds import check_name, integer_text, is_integer
from latestrows.limits import MAX_DEPTH, MAX_DISTANCE


class Time:
    """What the times of readers have in common: their name."""


class Look:
    """What the looks have in common: their name."""


def check_reader_time(value):
    if not isinstance(value, Time):
        raise NotATime(value)


def check_look(value):
    if not isinstance(value, Look):
        raise NotALook(value)


def in_order(things):
    """The different ones of these times, or looks, in ascending order of their texts."""
    by_text = {thing.text: thing for thing in things}
    return tuple([by_text[text] for text in sorted(by_text)])


def _check_depth(depth):
    if depth > MAX_DEPTH:
        raise TooMany(MAX_DEPTH)


def _check_shift(by):
    if not is_integer(by) or not -MAX_DISTANCE <= by <= MAX_DISTANCE:
        raise InvalidNumber(by)


def _check_look_parts(feed, time, within, strict):
    check_name(feed)
    check_reader_time(time)
    if within is not None and not (is_integer(within) and 0 <= within <= MAX_DISTANCE):
        raise InvalidWithin(within)
    if strict is not True and strict is not False:
        raise InvalidStrict(strict)


def _look_text(word, feed, time, within, strict):
    parts = [feed, time.text]
    if within is not None:
        parts.append(integer_text(within))
    if strict:
        parts.append("strict")
    inside = ", ".join(parts)
    return f"{word}({inside})"


def _shifted_back(time, by):
    # The sign is turned only behind the check, so that the error holds the integer as it was written.
    _check_shift(by)
    return Shift(time, -by)


class Now(Time):
    """The time at which the reader is asked."""

    def __init__(self):
        self.text = "now"
        self.depth = 1
        self.looks = ()
        self.grid_times = ()

    def at(self, other):
        check_reader_time(other)
        return other

    def without_bound(self, look):
        return self

    def __add__(self, other):
        return Shift(self, other)

    def __sub__(self, other):
        return _shifted_back(self, other)

    def __eq__(self, other):
        return isinstance(other, Now) and self.text == other.text

    def __str__(self):
        return str(self.text)

    def __repr__(self):
        return f"Time({self.text})"


class Shift(Time):
    """A time so much later, or earlier, than the one inside."""

    def __init__(self, time, by):
        check_reader_time(time)
        _check_shift(by)
        _check_depth(time.depth + 1)
        self.time = time
        self.by = by
        self.text = f"shift({time.text}, {integer_text(by)})"
        self.depth = time.depth + 1
        self.looks = time.looks
        self.grid_times = time.grid_times

    def at(self, other):
        return Shift(self.time.at(other), self.by)

    def without_bound(self, look):
        return Shift(self.time.without_bound(look), self.by)

    def __add__(self, other):
        return Shift(self, other)

    def __sub__(self, other):
        return _shifted_back(self, other)

    def __eq__(self, other):
        return isinstance(other, Shift) and self.text == other.text

    def __str__(self):
        return str(self.text)

    def __repr__(self):
        return f"Time({self.text})"


class Floor(Time):
    """The greatest point of the grid that is not greater than the time inside."""

    def __init__(self, time):
        check_reader_time(time)
        _check_depth(time.depth + 1)
        self.time = time
        self.text = f"floor({time.text})"
        self.depth = time.depth + 1
        self.looks = time.looks
        self.grid_times = in_order([self, *time.grid_times])

    def at(self, other):
        return Floor(self.time.at(other))

    def without_bound(self, look):
        return Floor(self.time.without_bound(look))

    def __add__(self, other):
        return Shift(self, other)

    def __sub__(self, other):
        return _shifted_back(self, other)

    def __eq__(self, other):
        return isinstance(other, Floor) and self.text == other.text

    def __str__(self):
        return str(self.text)

    def __repr__(self):
        return f"Time({self.text})"


class Ceil(Time):
    """The least point of the grid that is not less than the time inside."""

    def __init__(self, time):
        check_reader_time(time)
        _check_depth(time.depth + 1)
        self.time = time
        self.text = f"ceil({time.text})"
        self.depth = time.depth + 1
        self.looks = time.looks
        self.grid_times = in_order([self, *time.grid_times])

    def at(self, other):
        return Ceil(self.time.at(other))

    def without_bound(self, look):
        return Ceil(self.time.without_bound(look))

    def __add__(self, other):
        return Shift(self, other)

    def __sub__(self, other):
        return _shifted_back(self, other)

    def __eq__(self, other):
        return isinstance(other, Ceil) and self.text == other.text

    def __str__(self):
        return str(self.text)

    def __repr__(self):
        return f"Time({self.text})"


class RowTime(Time):
    """The time of the row that the look finds."""

    def __init__(self, look):
        check_look(look)
        _check_depth(look.depth + 1)
        self.look = look
        self.text = f"time({look.text})"
        self.depth = look.depth + 1
        self.looks = look.looks
        self.grid_times = look.grid_times

    def at(self, other):
        return RowTime(self.look.at(other))

    def without_bound(self, look):
        return RowTime(self.look.without_bound(look))

    def __add__(self, other):
        return Shift(self, other)

    def __sub__(self, other):
        return _shifted_back(self, other)

    def __eq__(self, other):
        return isinstance(other, RowTime) and self.text == other.text

    def __str__(self):
        return str(self.text)

    def __repr__(self):
        return f"Time({self.text})"


class Before(Look):
    """Finds the latest row of the feed at the time or before it."""

    def __init__(self, feed, time, *, within=None, strict=False):
        _check_look_parts(feed, time, within, strict)
        self.feed = feed
        self.time = time
        self.within = within
        self.strict = strict
        self.text = _look_text("before", feed, time, within, strict)
        self.depth = time.depth
        self.looks = in_order([self, *time.looks])
        self.grid_times = time.grid_times

    def at(self, other):
        return Before(self.feed, self.time.at(other), within=self.within, strict=self.strict)

    def without_bound(self, look):
        within = None if self.text == look.text else self.within
        return Before(self.feed, self.time.without_bound(look), within=within, strict=self.strict)

    def __eq__(self, other):
        return isinstance(other, Before) and self.text == other.text

    def __str__(self):
        return str(self.text)

    def __repr__(self):
        return f"Look({self.text})"


class After(Look):
    """Finds the first row of the feed at the time or after it."""

    def __init__(self, feed, time, *, within=None, strict=False):
        _check_look_parts(feed, time, within, strict)
        self.feed = feed
        self.time = time
        self.within = within
        self.strict = strict
        self.text = _look_text("after", feed, time, within, strict)
        self.depth = time.depth
        self.looks = in_order([self, *time.looks])
        self.grid_times = time.grid_times

    def at(self, other):
        return After(self.feed, self.time.at(other), within=self.within, strict=self.strict)

    def without_bound(self, look):
        within = None if self.text == look.text else self.within
        return After(self.feed, self.time.without_bound(look), within=within, strict=self.strict)

    def __eq__(self, other):
        return isinstance(other, After) and self.text == other.text

    def __str__(self):
        return str(self.text)

    def __repr__(self):
        return f"Look({self.text})"
