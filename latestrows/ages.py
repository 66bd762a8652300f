"""How old the rows are that a reader gives (point 18)."""

from latestrows.comparing import Example
from latestrows.errors import NeverRead
from latestrows.kinds import check_name, check_number
from latestrows.readers import check_reader
from latestrows.scenes import ASKED
from latestrows.search import FAR, ROW, greatest, outcome_ways, shown, solution
from latestrows.settings import check_setting_for


def age_range(reader, feed, setting):
    """The least and the greatest age of the rows of the feed that are given; None for a side without a bound."""
    check_reader(reader)
    check_name(feed)
    readers = [reader]
    check_setting_for(readers, setting)
    oldest = ahead = None
    for way, outcomes in outcome_ways(readers, setting):
        if _is_row_of(outcomes[0], feed):
            row = _row_given(way, outcomes[0])
            oldest = greatest(way, ASKED, row, oldest)
            ahead = greatest(way, row, ASKED, ahead)
    if oldest is None:
        raise NeverRead(feed)
    return _integer(-ahead), _integer(oldest)


def _integer(side):
    return None if abs(side) == FAR else side


def example_aged(reader, feed, age, setting):
    """An Example at which a row of the feed with this age is given; None if there is none."""
    check_reader(reader)
    check_name(feed)
    check_number(age)
    readers = [reader]
    check_setting_for(readers, setting)
    for way, outcomes in outcome_ways(readers, setting):
        if _is_row_of(outcomes[0], feed):
            row = _row_given(way, outcomes[0])
            aged = way.with_bounds([(ASKED, row, age), (row, ASKED, -age)])
            values = None if aged is None else solution(aged)
            if values is not None:
                table, time = shown(aged, values, outcomes)
                return Example(table, time)
    return None


def _is_row_of(outcome, feed):
    word, what = outcome
    return word == ROW and what.feed == feed


def _row_given(way, outcome):
    return way.scene.place(outcome[1])
