"""How old the rows are that a reader gives (point 18)."""

from latestrows.comparing import Example
from latestrows.errors import NeverRead
from latestrows.kinds import check_name, check_number
from latestrows.readers import check_reader
from latestrows.scenes import ASKED, Scene
from latestrows.search import difference_range, least_above, outcome_ways, shown, solution_apart
from latestrows.settings import check_setting_for
from latestrows.steps import ROW


def age_range(reader, feed, setting):
    """The least and the greatest age of the rows of the feed that are given; None for a side without a bound."""
    check_reader(reader)
    check_name(feed)
    check_setting_for([reader], setting)
    ages = difference_range(list(_ways_to_rows(reader, feed, setting)))
    if ages is None:
        raise NeverRead(feed)
    return ages


def example_aged(reader, feed, age, setting):
    """An Example at which a row of the feed with this age is given; None if there is none."""
    check_reader(reader)
    check_name(feed)
    check_number(age)
    check_setting_for([reader], setting)
    for way, asked, row in _ways_to_rows(reader, feed, setting):
        values = solution_apart(way, asked, row, age)
        if values is not None:
            table, time = shown(way, values, [])
            return Example(table, time)
    return None


def least_age_above(reader, feed, number, setting):
    """The least age above the number of the rows of the feed that are given; None if there is none."""
    check_reader(reader)
    check_name(feed)
    check_number(number)
    check_setting_for([reader], setting)
    return least_above(list(_ways_to_rows(reader, feed, setting)), number)


def _ways_to_rows(reader, feed, setting):
    """Each way on which a row of the feed is given, with the unknowns of which its age is the difference."""
    scene = Scene([("", reader)], setting)
    for way, steps in outcome_ways(scene):
        word, what = steps[0]
        if word == ROW and what.feed == feed:
            yield way, ASKED, what.place
