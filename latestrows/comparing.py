"""Compares readers for all tables and all times (points 16 and 17)."""

from latestrows.kinds import integer_text
from latestrows.readers import check_reader
from latestrows.scenes import Scene
from latestrows.search import outcome_ways, shown, solution, unlike_ways
from latestrows.settings import check_setting_for
from latestrows.steps import CONSTANT, NOTHING, ROW


class Example:
    """A table and a time that show something."""

    def __init__(self, table, time):
        self.table = table
        self.time = time


def alike(reader, other, setting):
    """Whether the readers give the same on all tables at all times."""
    return difference(reader, other, setting) is None


def difference(reader, other, setting):
    """An Example at which the readers do not give the same; None if there is none."""
    check_reader(reader)
    check_reader(other)
    check_setting_for([reader, other], setting)
    scene = Scene([("", reader), ("", other)], setting)
    for way, steps in outcome_ways(scene):
        for unlike in unlike_ways(way, steps):
            values = solution(unlike)
            if values is not None:
                table, time = shown(unlike, values, steps)
                return Example(table, time)
    return None


def outcomes(reader, setting):
    """What the outcomes are on all tables at all times, as texts in ascending order."""
    check_reader(reader)
    check_setting_for([reader], setting)
    found = {}
    scene = Scene([("", reader)], setting)
    for way, steps in outcome_ways(scene):
        text = _outcome_text(steps[0])
        if text not in found and solution(way) is not None:
            found[text] = True
    return tuple(sorted(found))


def _outcome_text(step):
    word, what = step
    if word == ROW:
        return "row " + what.feed
    if word == CONSTANT:
        return "constant " + integer_text(what)
    return NOTHING
