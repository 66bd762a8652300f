"""Goes through the ways on which readers have outcomes, and finds tables and times for them (points 16 and 17)."""

from latestrows.scenes import ASKED
from latestrows.steps import CONSTANT, LOOK, ROW, open_step, steps_on
from latestrows.tables import Table
from latestrows.ways import first_way

# Above each difference that is bounded at all: there are less than 20 unknowns, and bounds stay below 10 ** 11.
FAR = 1000000000000000


def outcome_ways(scene):
    """Each way on which the outcomes of all readers of the scene are known, with the list of these steps."""
    way = first_way(scene)
    if way is not None:
        yield from _ways_from(way)


def _ways_from(way):
    question = open_step(way)
    if question is None:
        yield way, steps_on(way)
        return
    prefix, step = question
    for further in _ways_behind(way, prefix, step):
        yield from _ways_from(further)


def _ways_behind(way, prefix, step):
    """The ways on which what the step depends on is chosen."""
    word, what = step
    if word == LOOK:
        ways = [way.with_look(what, found) for found in (True, False)]
    else:
        ways = [way.with_earlier(prefix, what, is_earlier) for is_earlier in (True, False)]
    return [further for further in ways if further is not None]


def unlike_ways(way, steps):
    """The ways behind this one on which the two outcomes are not the same."""
    (word, what), (other_word, other) = steps
    if word != other_word:
        return [way]
    if word != ROW:
        return [] if what == other else [way]
    if what.feed != other.feed:
        return [way]
    before, _, behind = way.scene.order_choice(what.feed, what.place, other.place).sides
    ways = [way.with_bounds(order) for order in (before, behind)]
    return [unlike for unlike in ways if unlike is not None]


def solution(way):
    """Integers for the unknowns on the way that keep all that holds on it; None if there are none."""
    values, broken = tried(way, way.bounds)
    if broken is None:
        return values
    for side in broken.sides:
        further = way.with_bounds(side)
        values = None if further is None else solution(further)
        if values is not None:
            return values
    return None


def _greatest(way, x, y, best):
    """The greatest difference x - y on the way if it is above the best one so far, and else that one.

    None stands for that there is none so far, FAR for that there is no greatest.
    """
    most = way.bounds.greatest(x, y)
    if most is None:
        most = FAR
    if best is not None and most <= best:
        return best
    bounds = way.bounds.copied()
    bounds.require(y, x, -most)
    _, broken = tried(way, bounds)
    if broken is None:
        return most
    for side in broken.sides:
        further = way.with_bounds(side)
        if further is not None:
            best = _greatest(further, x, y, best)
    return best


def difference_range(ways):
    """The least and the greatest difference X - Y on the ways, each a triple of a way, X and Y.

    None stands for a side without a bound, and for the whole if none of the ways can be gone.
    """
    below = above = None
    for way, x, y in ways:
        below = _greatest(way, y, x, below)
        above = _greatest(way, x, y, above)
    if above is None:
        return None
    return (None if below == FAR else -below), (None if above == FAR else above)


def least_above(ways, number):
    """The least difference X - Y above the number on the ways, given likewise; None if there is none."""
    below = None
    for way, x, y in ways:
        beyond = way.with_bounds([(y, x, -number - 1)])
        if beyond is not None:
            below = _greatest(beyond, y, x, below)
    return None if below is None else -below


def solution_apart(way, x, y, difference):
    """Integers for the unknowns that keep all that holds on the way, X - Y being just this; None if there are none."""
    exact = way.with_bounds([(x, y, difference), (y, x, -difference)])
    return None if exact is None else solution(exact)


def tried(way, bounds):
    """Integers that keep the bounds, and a choice of the way that they do not keep; None if they keep all."""
    for highest in (True, False):
        values = bounds.solution(way.live, highest)
        broken = _broken_choice(way, values)
        if broken is None:
            return values, None
    return values, broken


def _broken_choice(way, values):
    for choice in way.choices:
        if not any([_keeps(values, side) for side in choice.sides]):
            return choice
    return None


def _keeps(values, side):
    return all([values[x] - values[y] <= most for x, y, most in side])


def shown(way, values, steps):
    """The table and the time that these integers make; outcomes that are unlike give different integers there."""
    constants = [what for word, what in steps if word == CONSTANT]
    numbers = {}
    number = 0
    for feed, unknown in way.rows:
        if (feed, values[unknown]) not in numbers:
            number += 1
            while number in constants:
                number += 1
            numbers[feed, values[unknown]] = number
    table = Table.of(tuple([(feed, time, numbers[feed, time]) for feed, time in numbers]))
    return table, values[ASKED]
