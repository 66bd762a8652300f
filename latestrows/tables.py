"""Tables: finite sets of rows (feed, time, value)."""

from latestrows.errors import InvalidRows, MissingRow, NotATable
from latestrows.kinds import check_name, check_number, check_time, is_row


def check_table(value):
    if not isinstance(value, Table):
        raise NotATable(value)


class Table:
    """Rows of any feeds, no two of one feed with the same time."""

    def __init__(self, *rows):
        by_place = {}
        for index, row in enumerate(rows):
            if not is_row(row) or (row[0], row[1]) in by_place:
                raise InvalidRows(index)
            by_place[row[0], row[1]] = row[2]
        self.rows = tuple(sorted(rows))
        self.feeds = tuple(sorted({row[0] for row in rows}))
        self._by_place = by_place

    @staticmethod
    def of(rows):
        if not isinstance(rows, tuple):
            raise InvalidRows(None)
        return Table(*rows)

    def value_at(self, feed, time):
        self._check_present(feed, time)
        return self._by_place[feed, time]

    def times(self, feed):
        check_name(feed)
        for row in self.rows:
            if row[0] == feed:
                yield row[1]

    def with_row(self, feed, time, value):
        check_name(feed)
        check_time(time)
        check_number(value)
        others = self._rows_elsewhere(feed, time)
        return Table((feed, time, value), *others)

    def without(self, feed, time):
        self._check_present(feed, time)
        others = self._rows_elsewhere(feed, time)
        return Table(*others)

    def _check_present(self, feed, time):
        check_name(feed)
        check_time(time)
        if (feed, time) not in self._by_place:
            raise MissingRow((feed, time))

    def _rows_elsewhere(self, feed, time):
        return [row for row in self.rows if (row[0], row[1]) != (feed, time)]

    def __iter__(self):
        return iter(self.rows)

    def __len__(self):
        return len(self.rows)

    def __contains__(self, x):
        # Python holds True for equal to 1, so that only rows may be compared.
        return is_row(x) and x in self.rows

    def __eq__(self, other):
        return isinstance(other, Table) and self.rows == other.rows

    def __repr__(self):
        return f"Table({len(self.rows)} rows)"
