"""The readers (point 11)."""

from latestrows.errors import NoSuchPart, NotAReader, TooMany
from latestrows.kinds import check_number, integer_text, is_integer
from latestrows.limits import MAX_GRID_TIMES, MAX_LOOKS, MAX_PARTS
from latestrows.times import check_look, check_reader_time, in_order


class Reader:
    """What the readers have in common: their name.

    Besides what the interface lists, a reader has `text`, and `held`: the
    times and looks that stand in it itself, and not in one of its parts.
    """


def check_reader(value):
    if not isinstance(value, Reader):
        raise NotAReader(value)


def _check_limits(looks, grid_times, many):
    if len(looks) > MAX_LOOKS:
        raise TooMany(MAX_LOOKS)
    if len(grid_times) > MAX_GRID_TIMES:
        raise TooMany(MAX_GRID_TIMES)
    if many > MAX_PARTS:
        raise TooMany(MAX_PARTS)


# A reader is built from its innermost parts on, and one of these could be beyond a limit
# that is not the first one of the whole reader. So the whole is checked ahead of building it.
def _check_whole(held, many):
    looks = in_order([look for thing in held for look in thing.looks])
    grid_times = in_order([time for thing in held for time in thing.grid_times])
    _check_limits(looks, grid_times, many)


def _check_at(reader, time):
    check_reader_time(time)
    held = [thing.at(time) for part in reader.parts for thing in part.held]
    _check_whole(held, len(reader.parts))


def _check_replaced(reader, index, other):
    if not is_integer(index) or not 0 <= index < len(reader.parts):
        raise NoSuchPart(index)
    check_reader(other)
    behind = index + len(reader.parts[index].parts)
    parts = [*reader.parts[:index], *other.parts, *reader.parts[behind:]]
    _check_whole([thing for part in parts for thing in part.held], len(parts))


def _pair_replaced(reader, index, other):
    """The two readers inside the reader, one of which has the other reader in the place of the part."""
    in_second = index - 1 - len(reader.first.parts)
    if in_second < 0:
        return reader.first.replaced(index - 1, other), reader.second
    return reader.first, reader.second.replaced(in_second, other)


class Value(Reader):
    """Gives the value of the row that the look finds."""

    def __init__(self, look):
        check_look(look)
        _check_limits(look.looks, look.grid_times, 1)
        self.look = look
        self.text = f"value({look.text})"
        self.looks = look.looks
        self.grid_times = look.grid_times
        self.held = (look,)
        self.parts = (self,)

    def replaced(self, index, other):
        _check_replaced(self, index, other)
        return other

    def at(self, time):
        _check_at(self, time)
        return Value(self.look.at(time))

    def without_bound(self, look):
        check_look(look)
        return Value(self.look.without_bound(look))

    def __or__(self, other):
        return Else(self, other)

    def __eq__(self, other):
        return isinstance(other, Value) and self.text == other.text

    def __str__(self):
        return str(self.text)

    def __repr__(self):
        return f"Reader({self.text})"


class Constant(Reader):
    """Gives the number."""

    def __init__(self, number):
        check_number(number)
        self.number = number
        self.text = f"constant({integer_text(number)})"
        self.looks = ()
        self.grid_times = ()
        self.held = ()
        self.parts = (self,)

    def replaced(self, index, other):
        _check_replaced(self, index, other)
        return other

    def at(self, time):
        check_reader_time(time)
        return self

    def without_bound(self, look):
        check_look(look)
        return self

    def __or__(self, other):
        return Else(self, other)

    def __eq__(self, other):
        return isinstance(other, Constant) and self.text == other.text

    def __str__(self):
        return str(self.text)

    def __repr__(self):
        return f"Reader({self.text})"


class Missing(Reader):
    """Gives nothing."""

    def __init__(self):
        self.text = "missing"
        self.looks = ()
        self.grid_times = ()
        self.held = ()
        self.parts = (self,)

    def replaced(self, index, other):
        _check_replaced(self, index, other)
        return other

    def at(self, time):
        check_reader_time(time)
        return self

    def without_bound(self, look):
        check_look(look)
        return self

    def __or__(self, other):
        return Else(self, other)

    def __eq__(self, other):
        return isinstance(other, Missing) and self.text == other.text

    def __str__(self):
        return str(self.text)

    def __repr__(self):
        return f"Reader({self.text})"


class Else(Reader):
    """Gives what the first reader gives; if that is nothing, what the second one gives."""

    def __init__(self, first, second):
        check_reader(first)
        check_reader(second)
        looks = in_order([*first.looks, *second.looks])
        grid_times = in_order([*first.grid_times, *second.grid_times])
        _check_limits(looks, grid_times, 1 + len(first.parts) + len(second.parts))
        self.first = first
        self.second = second
        self.text = f"else({first.text}, {second.text})"
        self.looks = looks
        self.grid_times = grid_times
        self.held = ()
        self.parts = (self, *first.parts, *second.parts)

    def replaced(self, index, other):
        _check_replaced(self, index, other)
        if index == 0:
            return other
        first, second = _pair_replaced(self, index, other)
        return Else(first, second)

    def at(self, time):
        _check_at(self, time)
        return Else(self.first.at(time), self.second.at(time))

    def without_bound(self, look):
        check_look(look)
        return Else(self.first.without_bound(look), self.second.without_bound(look))

    def __or__(self, other):
        return Else(self, other)

    def __eq__(self, other):
        return isinstance(other, Else) and self.text == other.text

    def __str__(self):
        return str(self.text)

    def __repr__(self):
        return f"Reader({self.text})"


class IfEarlier(Reader):
    """Gives what the first reader gives if the time is at most the other one, else what the second one gives."""

    def __init__(self, time, other, first, second):
        check_reader_time(time)
        check_reader_time(other)
        check_reader(first)
        check_reader(second)
        looks = in_order([*time.looks, *other.looks, *first.looks, *second.looks])
        grid_times = in_order([*time.grid_times, *other.grid_times, *first.grid_times, *second.grid_times])
        _check_limits(looks, grid_times, 1 + len(first.parts) + len(second.parts))
        self.time = time
        self.other = other
        self.first = first
        self.second = second
        self.text = f"ifearlier({time.text}, {other.text}, {first.text}, {second.text})"
        self.looks = looks
        self.grid_times = grid_times
        self.held = (time, other)
        self.parts = (self, *first.parts, *second.parts)

    def replaced(self, index, other):
        _check_replaced(self, index, other)
        if index == 0:
            return other
        first, second = _pair_replaced(self, index, other)
        return IfEarlier(self.time, self.other, first, second)

    def at(self, time):
        _check_at(self, time)
        return IfEarlier(self.time.at(time), self.other.at(time), self.first.at(time), self.second.at(time))

    def without_bound(self, look):
        check_look(look)
        time, other = self.time.without_bound(look), self.other.without_bound(look)
        return IfEarlier(time, other, self.first.without_bound(look), self.second.without_bound(look))

    def __or__(self, other):
        return Else(self, other)

    def __eq__(self, other):
        return isinstance(other, IfEarlier) and self.text == other.text

    def __str__(self):
        return str(self.text)

    def __repr__(self):
        return f"Reader({self.text})"
