"""Runs readers as the document words it, without regard to how the package does; and all small tables."""

import itertools

from latestrows.readers import Constant, Else, Missing, Value
from latestrows.tables import Table
from latestrows.times import Before, Floor, Now, Shift, Ceil


def plain_time(time, rows, asked, grid):
    if isinstance(time, Now):
        return asked
    if isinstance(time, (Shift, Floor, Ceil)):
        inside = plain_time(time.time, rows, asked, grid)
        if inside is None:
            return None
        if isinstance(time, Shift):
            return inside + time.by
        while (inside - grid[1]) % grid[0] != 0:
            inside += -1 if isinstance(time, Floor) else 1
        return inside
    row = plain_find(time.look, rows, asked, grid)
    return None if row is None else row[1]


def plain_find(look, rows, asked, grid):
    x = plain_time(look.time, rows, asked, grid)
    if x is None:
        return None
    side = [row for row in rows if row[0] == look.feed and (row[1] <= x if isinstance(look, Before) else row[1] >= x)]
    if look.strict:
        side = [row for row in side if row[1] != x]
    if look.within is not None:
        side = [row for row in side if abs(row[1] - x) <= look.within]
    if not side:
        return None
    return max(side) if isinstance(look, Before) else min(side)


def plain_outcome(reader, rows, asked, grid):
    if isinstance(reader, Missing):
        return None
    if isinstance(reader, Constant):
        return ("constant", reader.number)
    if isinstance(reader, Value):
        return plain_find(reader.look, rows, asked, grid)
    if isinstance(reader, Else):
        first = plain_outcome(reader.first, rows, asked, grid)
        return first if first is not None else plain_outcome(reader.second, rows, asked, grid)
    times = [plain_time(time, rows, asked, grid) for time in (reader.time, reader.other)]
    if None in times:
        return None
    return plain_outcome(reader.first if times[0] <= times[1] else reader.second, rows, asked, grid)


def plain_read(reader, rows, asked, grid):
    given = plain_outcome(reader, rows, asked, grid)
    return None if given is None else given[-1]


def plain_keeps(setting, rows):
    apart = dict(setting.apart)
    for first, second in itertools.combinations(rows, 2):
        if first[0] == second[0] and abs(first[1] - second[1]) < apart.get(first[0], 1):
            return False
    return all((row[1] - setting.grid[1]) % setting.grid[0] == 0 for row in rows if row[0] in setting.on_grid)


def plain_asks(setting, rows, asked):
    return setting.at_rows is None or any(row[:2] == (setting.at_rows, asked) for row in rows)


def small_tables(setting, feeds, reach, most):
    """Pairs of rows and a time that is asked on them: all with so many rows at most, so near to the time.

    The times go over all rests of the step of the grid.
    """
    for asked in range(setting.grid[0] if setting.grid is not None else 1):
        places = [(feed, asked + away) for feed in feeds for away in range(-reach, reach + 1)]
        for many in range(most + 1):
            for chosen in itertools.combinations(places, many):
                rows = [(feed, time, 100 + index) for index, (feed, time) in enumerate(chosen)]
                if plain_keeps(setting, rows) and plain_asks(setting, rows, asked):
                    yield rows, asked


def check_example(test, example, readers, setting):
    """The example is one with few enough rows that the setting allows; returns the outcomes of the readers."""
    test.assertIsInstance(example.table, Table)
    test.assertIs(type(example.time), int)
    test.assertIs(plain_keeps(setting, example.table.rows), True)
    test.assertIs(plain_asks(setting, example.table.rows, example.time), True)
    looks = {str(look) for reader in readers for look in reader.looks}
    test.assertLessEqual(len(example.table), len(looks) + (1 if setting.at_rows is not None else 0))
    return [plain_outcome(reader, example.table.rows, example.time, setting.grid) for reader in readers]


def check_change(test, change, reader, feed, distance, setting):
    """The change is one by a late row of the feed at this distance, with few enough rows that the setting allows."""
    test.assertIsInstance(change.before, Table)
    test.assertIsInstance(change.after, Table)
    test.assertIs(type(change.time), int)
    before, after, asked = change.before.rows, change.after.rows, change.time
    late = [row for row in after if row not in before]
    test.assertEqual([row[:2] for row in late], [(feed, asked + distance)])
    test.assertEqual(before, tuple(row for row in after if row not in late))
    for rows in (before, after):
        test.assertIs(plain_keeps(setting, rows), True)
        test.assertIs(plain_asks(setting, rows, asked), True)
    test.assertLessEqual(len(before), 2 * len(reader.looks) + (1 if setting.at_rows is not None else 0))
    test.assertNotEqual(*[plain_read(reader, rows, asked, setting.grid) for rows in (before, after)])
