"""Judges certificates (points 23 to 25). What it needs of the program is what claims speak of, and running readers."""

from latestrows.claims import AGE, AGE_AT_MOST, ALIKE, CHANGED, UNCHANGED, UNLIKE, claim_in
from latestrows.errors import InvalidRows
from latestrows.kinds import is_integer
from latestrows.running import outcome, read
from latestrows.tables import Table
from latestrows.trees import closes


def holds(claim, certificate):
    """Whether the certificate shows the claim; False for any value that is no claim or no certificate."""
    known = claim_in(claim)
    if known is None:
        return False
    if known.word in (ALIKE, AGE_AT_MOST, UNCHANGED):
        return closes(known, certificate)
    if not isinstance(certificate, tuple) or len(certificate) != (3 if known.word == CHANGED else 2):
        return False
    rows, *numbers = certificate
    if not all([is_integer(number) for number in numbers]):
        return False
    table = _table_of(rows)
    if table is None or not _is_asked(known.setting, table, numbers[0]):
        return False
    if known.word == UNLIKE:
        return _shows_unlike(known, table, numbers[0])
    if known.word == AGE:
        return _shows_age(known, table, numbers[0])
    return _shows_changed(known, table, numbers[0], numbers[1])


def _table_of(rows):
    """The table with the rows; None if the value is not a tuple of rows, or two of them cannot be in one table."""
    try:
        return Table.of(rows)
    except InvalidRows:
        return None


def _is_asked(setting, table, time):
    return setting.keeps(table) and setting.asks(table, time)


def _shows_unlike(claim, table, time):
    first, second = [read(reader, table, time, grid=claim.setting.grid) for reader in claim.readers]
    return first != second


def _shows_age(claim, table, time):
    row = outcome(claim.readers[0], table, time, grid=claim.setting.grid)
    return row is not None and row[0] == claim.feed and len(row) == 3 and time - row[1] == claim.number


def _shows_changed(claim, table, time, value):
    late = time + claim.number
    if late in list(table.times(claim.feed)):
        return False
    more = table.with_row(claim.feed, late, value)
    if not claim.setting.keeps(more):
        return False
    before, after = [read(claim.readers[0], rows, time, grid=claim.setting.grid) for rows in (table, more)]
    return before != after
