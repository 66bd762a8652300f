"""Plans: joins of a table by readers (point 21)."""

from latestrows.comparing import difference
from latestrows.errors import InvalidColumns, InvalidName, NotAPlan, TooMany
from latestrows.kinds import check_grid, check_name, is_name
from latestrows.limits import MAX_COLUMNS
from latestrows.readers import Reader, Value
from latestrows.running import read
from latestrows.settings import check_grid_for, check_setting_for
from latestrows.tables import check_table
from latestrows.times import RowTime


def check_plan(value):
    if not isinstance(value, Plan):
        raise NotAPlan(value)


def full_readers(plan):
    """The full readers of all columns, in their order."""
    return [plan.reader(name) for name in plan.names]


def joined_row(plan, table, time, grid):
    """The time and the value of the left row at this time, and the answers of all columns."""
    answers = [read(reader, table, time, grid=grid) for reader in full_readers(plan)]
    return (time, table.value_at(plan.left, time), *answers)


def alike_plans(plan, second, setting):
    """Whether the plans join each table in the same way, but for the order of their columns."""
    return plans_difference(plan, second, setting) is None


def plans_difference(plan, second, setting):
    """What is unlike in the plans, with an Example if it is a column; None if nothing is."""
    check_plan(plan)
    check_plan(second)
    check_setting_for([*full_readers(plan), *full_readers(second)], setting)
    if plan.left != second.left:
        return ("left",)
    if sorted(plan.names) != sorted(second.names):
        return ("names",)
    asked = setting.with_rows_of(plan.left)
    for name in sorted(plan.names):
        example = difference(plan.reader(name), second.reader(name), asked)
        if example is not None:
            return name, example
    return None


def _full_reader(column, readers):
    """The full reader of a column behind those with these full readers; None if it cannot stand there."""
    if not isinstance(column, tuple) or len(column) != 3:
        return None
    name, base, reader = column
    if not is_name(name) or name in readers or not isinstance(reader, Reader):
        return None
    if base is None:
        return reader
    if not is_name(base) or not isinstance(readers.get(base), Value):
        return None
    try:
        return reader.at(RowTime(readers[base].look))
    except TooMany:
        return None


class Plan:
    """The columns that are joined to each row of the left feed."""

    def __init__(self, left, *columns):
        check_name(left)
        if not 1 <= len(columns) <= MAX_COLUMNS:
            raise InvalidColumns(None)
        readers = {}
        for index, column in enumerate(columns):
            full_reader = _full_reader(column, readers)
            if full_reader is None:
                raise InvalidColumns(index)
            readers[column[0]] = full_reader
        self.left = left
        self.columns = columns
        self.names = tuple(readers)
        self._readers = readers
        looks = [look for name in readers for look in readers[name].looks]
        self.feeds = tuple(sorted(set([left, *[look.feed for look in looks]])))

    def reader(self, name):
        if name not in self:
            raise InvalidName(name)
        return self._readers[name]

    def run(self, table, *, grid=None):
        check_table(table)
        check_grid(grid)
        check_grid_for(full_readers(self), grid)
        for row in table.rows:
            if row[0] == self.left:
                yield joined_row(self, table, row[1], grid)

    def __len__(self):
        return len(self.columns)

    def __contains__(self, x):
        # Only strings can be names, and other values might hold themselves for equal to one.
        return isinstance(x, str) and x in self.names

    def __eq__(self, other):
        return isinstance(other, Plan) and self.left == other.left and self.columns == other.columns

    def __repr__(self):
        return f"Plan({self.left}, {len(self.columns)} columns)"
