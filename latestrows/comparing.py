"""Compares readers for all tables and all times (points 16 and 17)."""

from latestrows.kinds import integer_text
from latestrows.readers import check_reader
from latestrows.search import CONSTANT, NOTHING, ROW, outcome_ways, shown, solution
from latestrows.settings import check_setting_for


class Example:
    """A table and a time that show something."""

    def __init__(self, table, time):
        self.table = table
        self.time = time


def alike(reader, other, setting):
    """Whether the readers give the same on all tables at all times."""
    return difference(reader, other, setting) is None


def difference(reader, other, setting):
    """An Example at which the readers do not give the same; None if there is none."""
    check_reader(reader)
    check_reader(other)
    readers = [reader, other]
    check_setting_for(readers, setting)
    for way, steps in outcome_ways(readers, setting):
        for unlike in _unlike_ways(way, steps):
            values = solution(unlike)
            if values is not None:
                table, time = shown(unlike, values, steps)
                return Example(table, time)
    return None


def outcomes(reader, setting):
    """What the outcomes are on all tables at all times, as texts in ascending order."""
    check_reader(reader)
    readers = [reader]
    check_setting_for(readers, setting)
    found = {}
    for way, steps in outcome_ways(readers, setting):
        text = _outcome_text(steps[0])
        if text not in found and solution(way) is not None:
            found[text] = True
    return tuple(sorted(found))


def _outcome_text(step):
    word, what = step
    if word == ROW:
        return "row " + what.feed
    if word == CONSTANT:
        return "constant " + integer_text(what)
    return NOTHING


def _unlike_ways(way, steps):
    """The ways behind this one on which the two outcomes are not the same."""
    (word, what), (other_word, other) = steps
    if word != other_word:
        return [way]
    if word != ROW:
        return [] if what == other else [way]
    if what.feed != other.feed:
        return [way]
    _, *orders = way.scene.order_choice(what.feed, way.scene.place(what), way.scene.place(other))
    ways = [way.with_bounds(order) for order in orders]
    return [unlike for unlike in ways if unlike is not None]
