"""How old the rows are that a reader gives (point 18)."""

from latestrows.comparing import Example
from latestrows.errors import NeverRead
from latestrows.kinds import check_name, check_number
from latestrows.readers import check_reader
from latestrows.scenes import ASKED, Scene
from latestrows.search import FAR, greatest, outcome_ways, shown, solution
from latestrows.settings import check_setting_for
from latestrows.steps import ROW


def age_range(reader, feed, setting):
    """The least and the greatest age of the rows of the feed that are given; None for a side without a bound."""
    check_reader(reader)
    check_name(feed)
    check_setting_for([reader], setting)
    oldest = ahead = None
    for way, row in _ways_to_rows(reader, feed, setting):
        oldest = greatest(way, ASKED, row, oldest)
        ahead = greatest(way, row, ASKED, ahead)
    if oldest is None:
        raise NeverRead(feed)
    return (None if ahead == FAR else -ahead), (None if oldest == FAR else oldest)


def example_aged(reader, feed, age, setting):
    """An Example at which a row of the feed with this age is given; None if there is none."""
    check_reader(reader)
    check_name(feed)
    check_number(age)
    check_setting_for([reader], setting)
    for way, row in _ways_to_rows(reader, feed, setting):
        aged = way.with_bounds([(ASKED, row, age), (row, ASKED, -age)])
        values = None if aged is None else solution(aged)
        if values is not None:
            table, time = shown(aged, values, [])
            return Example(table, time)
    return None


def least_age_above(reader, feed, number, setting):
    """The least age above the number of the rows of the feed that are given; None if there is none."""
    check_reader(reader)
    check_name(feed)
    check_number(number)
    check_setting_for([reader], setting)
    ahead = None
    for way, row in _ways_to_rows(reader, feed, setting):
        older = way.with_bounds([(row, ASKED, -number - 1)])
        if older is not None:
            ahead = greatest(older, row, ASKED, ahead)
    return None if ahead is None else -ahead


def _ways_to_rows(reader, feed, setting):
    """Each way on which a row of the feed is given, with the unknown for its time."""
    scene = Scene([("", reader)], setting)
    for way, steps in outcome_ways(scene):
        word, what = steps[0]
        if word == ROW and what.feed == feed:
            yield way, what.place
