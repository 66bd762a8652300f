"""A report of what a reader gives."""

from latestrows.ages import age_range
from latestrows.changes import change_range
from latestrows.comparing import outcomes
from latestrows.errors import NeverChanged, NeverRead
from latestrows.kinds import integer_text


def report(reader, setting):
    """What the reader gives, and for each feed how old its rows are and which late rows change an answer."""
    given = ", ".join(outcomes(reader, setting))
    lines = [f"gives {given}"]
    for feed in sorted({look.feed for look in reader.looks}):
        lines.append(f"{feed}: {_age_text(reader, feed, setting)}, {_late_text(reader, feed, setting)}")
    return "\n".join(lines)


def _age_text(reader, feed, setting):
    try:
        return "age " + _range_text(age_range(reader, feed, setting))
    except NeverRead:
        return "never read"


def _late_text(reader, feed, setting):
    try:
        return "late " + _range_text(change_range(reader, feed, setting))
    except NeverChanged:
        return "no change"


def _range_text(sides):
    least, greatest = sides
    return f"{_side_text(least)} to {_side_text(greatest)}"


def _side_text(side):
    return "any" if side is None else integer_text(side)
