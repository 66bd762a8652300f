"""Goes through the ways on which readers have outcomes, and finds tables and times for them (points 16 and 17)."""

from latestrows.readers import Constant, Else, Missing, Value
from latestrows.scenes import ASKED, Scene
from latestrows.tables import Table
from latestrows.ways import first_way

# A step of a reader on a way is a pair of one of these words and of what it is about: the outcome is
# known (a row by its look, a constant by its number, or nothing), or it depends on a look, or on the times
# of a reader, of which nothing has been chosen yet.
ROW = "row"
CONSTANT = "constant"
NOTHING = "missing"
LOOK = "look"
EARLIER = "earlier"

# Above each difference that is bounded at all: there are less than 20 unknowns, and bounds stay below 10 ** 11.
FAR = 1000000000000000


def outcome_ways(readers, setting):
    """Each way on which the outcomes of all these readers are known, with the list of these outcomes."""
    way = first_way(Scene(readers, setting))
    if way is not None:
        yield from _ways_from(way)


def _ways_from(way):
    outcomes = []
    for reader in way.scene.readers:
        step = _step(way, reader)
        if step[0] == LOOK or step[0] == EARLIER:
            for further in _ways_behind(way, step):
                yield from _ways_from(further)
            return
        outcomes.append(step)
    yield way, outcomes


def _ways_behind(way, step):
    """The ways on which what the step depends on is chosen."""
    word, what = step
    if word == LOOK:
        ways = [way.with_look(what, found) for found in (True, False)]
    else:
        ways = [way.with_earlier(what.time, what.other, is_earlier) for is_earlier in (True, False)]
    return [further for further in ways if further is not None]


def _step(way, reader):
    if isinstance(reader, Missing):
        return NOTHING, None
    if isinstance(reader, Constant):
        return CONSTANT, reader.number
    if isinstance(reader, Value):
        step = _looks_step(way, reader.look.looks)
        return (ROW, reader.look) if step is None else step
    if isinstance(reader, Else):
        step = _step(way, reader.first)
        return _step(way, reader.second) if step[0] == NOTHING else step
    return _earlier_step(way, reader)


def _earlier_step(way, reader):
    for time in (reader.time, reader.other):
        step = _looks_step(way, time.looks)
        if step is not None:
            return step
    pair = (reader.time.text, reader.other.text)
    if pair not in way.earlier:
        return EARLIER, reader
    return _step(way, reader.first if way.earlier[pair] else reader.second)


def _looks_step(way, looks):
    """None if all of these looks, which are inside one another, find rows; else nothing, or the look to be asked."""
    for look in sorted(looks, key=lambda inside: inside.depth):
        if look.text not in way.found:
            return LOOK, look
        if not way.found[look.text]:
            return NOTHING, None
    return None


def solution(way):
    """Integers for the unknowns on the way that keep all that holds on it; None if there are none."""
    values, broken = _tried(way, way.bounds)
    if broken is None:
        return values
    for side in broken:
        further = way.with_bounds(side)
        values = None if further is None else solution(further)
        if values is not None:
            return values
    return None


def greatest(way, x, y, best):
    """The greatest difference x - y on the way if it is above the best one so far, and else that one.

    None stands for that there is none so far, FAR for that there is no greatest.
    """
    most = way.bounds.greatest(x, y)
    if most is None:
        most = FAR
    if best is not None and most <= best:
        return best
    bounds = way.bounds.copied()
    bounds.require(y, x, -most)
    _, broken = _tried(way, bounds)
    if broken is None:
        return most
    for side in broken:
        further = way.with_bounds(side)
        if further is not None:
            best = greatest(further, x, y, best)
    return best


def _tried(way, bounds):
    """Integers that keep the bounds, and a choice of the way that they do not keep; None if they keep all."""
    for highest in (True, False):
        values = bounds.solution(way.live, highest)
        broken = _broken_choice(way, values)
        if broken is None:
            return values, None
    return values, broken


def _broken_choice(way, values):
    for choice in way.choices:
        if not any([_keeps(values, side) for side in choice]):
            return choice
    return None


def _keeps(values, side):
    return all([values[x] - values[y] <= most for x, y, most in side])


def shown(way, values, outcomes):
    """The table and the time that these integers make; outcomes that are unlike give different integers there."""
    constants = [what for word, what in outcomes if word == CONSTANT]
    numbers = {}
    number = 0
    for feed, unknown in way.rows:
        if (feed, values[unknown]) not in numbers:
            number += 1
            while number in constants:
                number += 1
            numbers[feed, values[unknown]] = number
    table = Table.of(tuple([(feed, time, numbers[feed, time]) for feed, time in numbers]))
    return table, values[ASKED]
