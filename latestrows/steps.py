"""What the outcome of a reader is on a way, or what it depends on there."""

from latestrows.readers import Constant, Else, Missing, Value

# A step of a reader on a way is a pair of one of these words and of what it is about: the outcome is
# known (a row by its look, a constant by its number, or nothing), or it depends on a look, or on the times
# of a reader, of which nothing has been chosen yet.
ROW = "row"
CONSTANT = "constant"
NOTHING = "missing"
LOOK = "look"
EARLIER = "earlier"


def open_step(way):
    """The prefix of the run and the step of the first reader whose outcome is not known; None if all are known."""
    for prefix, reader in way.scene.runs:
        step = _step(way, prefix, reader)
        if step[0] == LOOK or step[0] == EARLIER:
            return prefix, step
    return None


def steps_on(way):
    """The steps of all readers of the scene."""
    return [_step(way, prefix, reader) for prefix, reader in way.scene.runs]


def _step(way, prefix, reader):
    """The step of the reader in the run with this prefix."""
    if isinstance(reader, Missing):
        return NOTHING, None
    if isinstance(reader, Constant):
        return CONSTANT, reader.number
    if isinstance(reader, Value):
        step = _looks_step(way, prefix, reader.look.looks)
        return (ROW, way.scene.labelled_looks[prefix + reader.look.text]) if step is None else step
    if isinstance(reader, Else):
        step = _step(way, prefix, reader.first)
        return _step(way, prefix, reader.second) if step[0] == NOTHING else step
    return _earlier_step(way, prefix, reader)


def _earlier_step(way, prefix, reader):
    for time in (reader.time, reader.other):
        step = _looks_step(way, prefix, time.looks)
        if step is not None:
            return step
    pair = (prefix + reader.time.text, prefix + reader.other.text)
    if pair not in way.earlier:
        return EARLIER, reader
    return _step(way, prefix, reader.first if way.earlier[pair] else reader.second)


def _looks_step(way, prefix, looks):
    """None if all of these looks, which are inside one another, find rows; else nothing, or the look to be asked."""
    for look in sorted(looks, key=lambda inside: inside.depth):
        label = prefix + look.text
        if label not in way.found:
            return LOOK, way.scene.labelled_looks[label]
        if not way.found[label]:
            return NOTHING, None
    return None
