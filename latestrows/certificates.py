"""Claims that are true, with certificates that the checker accepts (points 23 to 25)."""

from latestrows.ages import example_aged, least_age_above
from latestrows.changes import change_at, least_change_above
from latestrows.claims import AGE, AGE_AT_MOST, ALIKE, CHANGED, UNCHANGED, UNLIKE
from latestrows.comparing import difference
from latestrows.proofs import aged_tree, same_tree
from latestrows.scenes import ASKED, LATE, Scene, late_scene


def certify_alike(reader, other, setting):
    """The claim that the readers are alike, or that they are not, and a certificate."""
    example = difference(reader, other, setting)
    texts = (str(reader), str(other), str(setting))
    if example is None:
        return (ALIKE, *texts), same_tree(Scene([("", reader), ("", other)], setting), [])
    return (UNLIKE, *texts), (example.table.rows, example.time)


def certify_age(reader, feed, number, setting):
    """The claim that no row of the feed is older, or that one has the least age above it, and a certificate."""
    age = least_age_above(reader, feed, number, setting)
    if age is None:
        claim = (AGE_AT_MOST, str(reader), feed, number, str(setting))
        return claim, aged_tree(Scene([("", reader)], setting), feed, number)
    example = example_aged(reader, feed, age, setting)
    return (AGE, str(reader), feed, age, str(setting)), (example.table.rows, example.time)


def certify_late(reader, feed, number, setting):
    """The claim that no row farther ahead changes an answer, or that the nearest one does, and a certificate."""
    distance = least_change_above(reader, feed, number, setting)
    if distance is None:
        claim = (UNCHANGED, str(reader), feed, number, str(setting))
        return claim, same_tree(late_scene(reader, feed, setting), [(ASKED, LATE, -number - 1)])
    change = change_at(reader, feed, distance, setting)
    value = change.after.value_at(feed, change.time + distance)
    return (CHANGED, str(reader), feed, distance, str(setting)), (change.before.rows, change.time, value)
