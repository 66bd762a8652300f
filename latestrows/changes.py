"""Which rows change an answer when they come late (point 19)."""

from latestrows.errors import NeverChanged
from latestrows.kinds import check_name, check_number
from latestrows.readers import check_reader
from latestrows.scenes import ASKED, LATE, late_scene
from latestrows.search import difference_range, least_above, outcome_ways, shown, solution_apart, unlike_ways
from latestrows.settings import check_setting_for


class Change:
    """Two tables, the second one with a row more, and a time that show that this row changes an answer."""

    def __init__(self, before, after, time):
        self.before = before
        self.after = after
        self.time = time


def change_at(reader, feed, distance, setting):
    """A Change by a row of the feed that is at this distance from the time; None if there is none."""
    check_reader(reader)
    check_name(feed)
    check_number(distance)
    check_setting_for([reader], setting)
    scene = late_scene(reader, feed, setting)
    for way, steps in outcome_ways(scene):
        for unlike in unlike_ways(way, steps):
            values = solution_apart(unlike, LATE, ASKED, distance)
            if values is not None:
                after, time = shown(unlike, values, steps)
                return Change(after.without(feed, values[LATE]), after, time)
    return None


def change_range(reader, feed, setting):
    """The least and the greatest distance of rows that change an answer; None for a side without a bound."""
    check_reader(reader)
    check_name(feed)
    check_setting_for([reader], setting)
    distances = difference_range(_changing_ways(reader, feed, setting))
    if distances is None:
        raise NeverChanged(feed)
    return distances


def looks_ahead(reader, setting):
    """Whether a row at a later time than that of the question changes an answer."""
    check_reader(reader)
    check_setting_for([reader], setting)
    feeds = sorted({look.feed for look in reader.looks})
    return any([least_change_above(reader, feed, 0, setting) is not None for feed in feeds])


def least_change_above(reader, feed, number, setting):
    """The least distance above the number of rows that change an answer; None if there is none."""
    check_reader(reader)
    check_name(feed)
    check_number(number)
    check_setting_for([reader], setting)
    return least_above(_changing_ways(reader, feed, setting), number)


def _changing_ways(reader, feed, setting):
    """All ways on which the late row changes the answer, with the unknowns of which its distance is the difference."""
    scene = late_scene(reader, feed, setting)
    found = []
    for way, steps in outcome_ways(scene):
        found.extend([(unlike, LATE, ASKED) for unlike in unlike_ways(way, steps)])
    return found
