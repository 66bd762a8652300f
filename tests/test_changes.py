import unittest

from latestrows.changes import Change, change_at, change_range, looks_ahead
from latestrows.errors import InvalidName, InvalidNumber, NeverChanged, NoGrid, NotAReader, NotASetting
from latestrows.readers import Constant, Missing
from latestrows.settings import Setting
from latestrows.texts import read_reader

from nested import Maker
from plain_runs import check_change
from raising import RaisingCase
from wrong_parts import NOT_READERS, NOT_SETTINGS
from wrong_values import NOT_INTEGERS, NOT_NAMES

FAR = 10 ** 59

# A reader, a feed, a setting, and the change range.
RANGES = [
    # The late row is found itself, or only takes the place of another one.
    ("value(before(a, now))", "a", "any", (None, 0)),
    ("value(before(a, now))", "a", "at b", (None, 0)),
    ("value(before(a, now, 5))", "a", "any", (-5, 0)),
    ("value(before(a, now, 5))", "a", "apart a 9", (-5, 0)),
    ("value(before(a, now, strict))", "a", "any", (None, -1)),
    ("value(before(a, now, 5, strict))", "a", "any", (-5, -1)),
    ("value(after(a, now))", "a", "any", (0, None)),
    ("value(after(a, now, 2))", "a", "any", (0, 2)),
    ("value(after(a, now, 2, strict))", "a", "any", (1, 2)),
    ("value(before(a, now, 0))", "a", "any", (0, 0)),
    ("value(before(a, shift(now, 9), 4))", "a", "any", (5, 9)),
    ("value(after(a, shift(now, -9), 4))", "a", "any", (-9, -5)),
    ("value(before(a, shift(now, 3)))", "a", "any", (None, 3)),
    ("value(before(a, shift(now, -1000000000), 1000000000))", "a", "any", (-2000000000, -1000000000)),
    ("value(after(a, shift(shift(now, 1000000000), 1000000000), 1000000000))", "a", "any", (2000000000, 3000000000)),
    ("else(value(before(a, now)), value(after(a, now)))", "a", "any", (None, None)),
    ("else(value(before(a, now, 2)), value(before(a, shift(now, -5), 2)))", "a", "any", (-7, 0)),
    ("else(value(before(a, now, 5)), value(before(a, now, 2)))", "a", "any", (-5, 0)),
    ("else(value(before(b, now, 3)), value(before(a, now, 9)))", "a", "any", (-9, 0)),
    ("else(value(before(b, now, 3)), value(before(a, now, 9)))", "b", "any", (-3, 0)),
    # Another look goes on from the time of the late row.
    ("value(before(a, time(before(b, now, 5)), 3))", "a", "any", (-8, 0)),
    ("value(before(a, time(before(b, now, 5)), 3))", "b", "any", (-5, 0)),
    ("value(before(a, time(before(b, now, 5)), 3))", "a", "at b", (-3, 0)),
    ("value(before(a, time(before(b, now, 5)), 3, strict))", "a", "any", (-8, -1)),
    ("value(after(a, time(before(b, now, 5)), 3))", "a", "any", (-5, 3)),
    ("value(after(a, time(before(a, now)), strict))", "a", "any", (None, None)),
    ("value(after(a, time(before(a, now, 4)), 9, strict))", "a", "any", (-4, 9)),
    ("value(before(a, time(after(a, now))))", "a", "any", (0, None)),
    # A look finds something where it found nothing.
    ("ifearlier(time(before(a, now, 5)), shift(now, -3), constant(1), constant(2))", "a", "any", (-5, 0)),
    ("ifearlier(time(before(a, now, 5)), shift(now, -3), constant(1), missing)", "a", "any", (-5, 0)),
    ("ifearlier(time(before(a, now, 5)), shift(now, -3), missing, constant(1))", "a", "any", (-2, 0)),
    ("ifearlier(now, time(after(a, now, 7)), constant(1), missing)", "a", "any", (0, 7)),
    ("ifearlier(time(before(a, now)), shift(now, -4), missing, value(before(b, now)))", "a", "any", (-3, 0)),
    ("ifearlier(time(before(a, now)), shift(now, -4), missing, value(before(b, now)))", "b", "any", (None, 0)),
    # The row at the time of the question, and how far apart rows are.
    ("value(before(a, now, strict))", "a", "at a", (None, -1)),
    ("value(before(a, now, strict))", "a", "apart a 7; at a", (None, -7)),
    ("value(before(a, now, 9, strict))", "a", "apart a 7; at a", (-9, -7)),
    ("value(after(a, now, 9, strict))", "a", "apart a 4; at a", (4, 9)),
    ("value(before(b, time(before(a, now, 5, strict)), 3))", "a", "apart a 4; at a", (-5, -4)),
    ("value(before(b, time(before(a, now, 5, strict)), 3))", "b", "apart a 4; at a", (-8, -4)),
    ("else(value(before(a, now, 5)), value(after(a, now, 5)))", "a", "apart a 11", (-5, 5)),
    ("ifearlier(now, time(after(a, now, 3)), value(before(a, now, 9, strict)), missing)", "a", "any", (-9, 3)),
    ("ifearlier(now, time(after(a, now, 3)), value(before(a, now, 9, strict)), missing)", "a", "apart a 12",
     (-9, 3)),
    # Grids.
    ("value(before(a, floor(now), 5))", "a", "grid 4 0", (-8, 0)),
    ("value(before(a, floor(now), 5))", "a", "grid 4 0; on a", (-7, 0)),
    ("value(before(a, floor(now), 5))", "a", "grid 4 0; on b; at b", (-5, 0)),
    ("value(before(a, floor(now), 5))", "a", "grid 1 0", (-5, 0)),
    ("value(after(a, ceil(now), 59))", "a", "grid 60 7", (0, 118)),
    ("value(after(a, ceil(now), 59))", "a", "grid 60 7; on a", (0, 59)),
    ("value(before(a, now, 9, strict))", "a", "grid 5 0; on a; at a", (-5, -5)),
    ("value(before(a, now, 14, strict))", "a", "grid 5 0; on a", (-14, -1)),
    ("value(before(a, now, 14, strict))", "a", "grid 5 0; apart a 6; on a; at a", (-10, -10)),
    # The grid leaves places between its points for one end of a chain of bounds only.
    ("ifearlier(now, ceil(time(after(a, floor(now)))), value(after(a, floor(now))), missing)", "a", "grid 3 0",
     (-2, None)),
    # A row that comes ahead of another one, so that this one is not found any more.
    ("ifearlier(time(after(a, now, 9)), shift(now, 4), missing, value(after(a, now, 9)))", "a", "any", (0, 9)),
    ("ifearlier(time(after(a, now, 9)), shift(now, 4), missing, constant(1))", "a", "any", (0, 9)),
]

# No row of the feed changes an answer.
NEVER = [
    ("missing", "a", "any"),
    ("constant(1)", "a", "any"),
    ("value(before(a, now))", "b", "any"),
    ("value(before(a, now))", "constant", "any"),
    ("value(before(a, now))", "b", "at b"),
    ("value(before(a, now))", "a", "at a"),
    ("value(after(a, now))", "a", "at a"),
    ("else(constant(0), value(before(a, now)))", "a", "any"),
    ("else(value(before(a, now)), value(before(b, now)))", "b", "at a"),
    ("value(before(a, now, 0, strict))", "a", "any"),
    ("value(before(a, now, 4, strict))", "a", "apart a 5; at a"),
    ("value(before(a, now, 4, strict))", "a", "grid 5 0; on a; at a"),
    ("ifearlier(now, time(after(a, now, 2)), missing, value(before(a, now, 9)))", "a", "any"),
    ("ifearlier(time(before(a, now)), now, constant(1), value(before(a, now)))", "a", "at a"),
    ("ifearlier(now, time(after(a, now, 3)), value(before(a, now, 9, strict)), missing)", "a", "apart a 13"),
    ("ifearlier(ceil(now), floor(now), missing, value(before(a, now)))", "a", "grid 1 0"),
]


def range_of(reader, feed, setting):
    try:
        return change_range(reader, feed, setting)
    except NeverChanged:
        return None


class ChangesCase(RaisingCase):
    def assert_shown(self, reader, feed, distance, setting):
        change = change_at(reader, feed, distance, setting)
        self.assertIs(type(change), Change)
        check_change(self, change, reader, feed, distance, setting)
        again = change_at(reader, feed, distance, setting)
        self.assertEqual((change.before, change.after, change.time), (again.before, again.after, again.time))

    def assert_none(self, reader, feed, distance, setting):
        self.assertIs(change_at(reader, feed, distance, setting), None)

    def assert_range(self, reader, feed, setting, expected):
        found = change_range(reader, feed, setting)
        self.assertEqual(found, expected)
        self.assertIs(type(found), tuple)
        for bound, beyond in zip(expected, (-1, 1)):
            if bound is None:
                # The next distance that rows of feeds on the grid can have may be a step away.
                shown = [change_at(reader, feed, beyond * (FAR + more), setting) for more in range(60)]
                self.assertTrue(any(change is not None for change in shown))
            else:
                self.assert_shown(reader, feed, bound, setting)
                self.assert_none(reader, feed, bound + beyond, setting)
                self.assert_none(reader, feed, beyond * FAR, setting)


class RangesTest(ChangesCase):
    def test_ranges(self):
        for text, feed, setting, expected in RANGES:
            with self.subTest(text=text, feed=feed, setting=setting):
                self.assert_range(read_reader(text), feed, Setting.read(setting), expected)

    def test_never_changed(self):
        for text, feed, setting in NEVER:
            with self.subTest(text=text, feed=feed, setting=setting):
                reader = read_reader(text)
                self.assert_raised(NeverChanged, feed, change_range, reader, feed, Setting.read(setting))
                for distance in (-FAR, -5, -1, 0, 1, 5, FAR):
                    self.assert_none(reader, feed, distance, Setting.read(setting))

    def test_distances_that_change_nothing(self):
        reader = read_reader("else(value(before(a, now, 2)), value(before(a, shift(now, -5), 2)))")
        for distance in range(-12, 3):
            if distance in (-7, -6, -5, -2, -1, 0):
                self.assert_shown(reader, "a", distance, Setting())
            else:
                self.assert_none(reader, "a", distance, Setting())
        reader = read_reader("value(before(a, now))")
        setting = Setting(grid=(5, 2), on_grid=("a", "b"), at_rows="b")
        for distance in range(-20, 3):
            if distance <= 0 and distance % 5 == 0:
                self.assert_shown(reader, "a", distance, setting)
            else:
                self.assert_none(reader, "a", distance, setting)
        self.assert_shown(reader, "a", -FAR, setting)
        self.assert_none(reader, "a", -FAR - 1, setting)

    def test_many_digits(self):
        self.assert_shown(read_reader("value(before(a, now))"), "a", -FAR, Setting())
        self.assert_shown(read_reader("value(after(a, now))"), "a", FAR, Setting(apart=(("a", 10 ** 9),)))
        self.assert_none(read_reader("value(after(a, now))"), "a", -FAR, Setting())

    def test_the_late_row_is_not_the_one_at_the_time(self):
        reader = read_reader("value(before(a, now))")
        self.assert_none(reader, "a", 0, Setting(at_rows="a"))
        self.assert_shown(reader, "a", 0, Setting(at_rows="b"))
        self.assert_shown(reader, "a", 0, Setting())

    def test_constants_that_the_late_row_could_be_like(self):
        for number in range(-3, 12):
            reader = read_reader(f"else(value(before(a, now, 4)), constant({number}))")
            for distance in range(-4, 1):
                self.assert_shown(reader, "a", distance, Setting())
                self.assert_shown(reader, "a", distance, Setting(at_rows="b"))

    def test_by_name(self):
        reader = read_reader("value(before(a, now, 5))")
        self.assertEqual(change_range(setting=Setting(), feed="a", reader=reader), (-5, 0))
        self.assertIs(type(change_at(distance=-3, setting=Setting(), feed="a", reader=reader)), Change)
        self.assertIs(looks_ahead(setting=Setting(), reader=reader), False)

    def test_the_example_of_the_document(self):
        reader = read_reader("value(before(a, time(before(b, now, 5)), 3))")
        shown = change_at(reader, "b", -5, Setting())
        self.assertEqual(
            [change_range(reader, "a", Setting()), change_range(reader, "b", Setting()),
             len(shown.after) - len(shown.before), looks_ahead(reader, Setting()),
             looks_ahead(read_reader("value(after(b, now, 2))"), Setting())],
            [(-8, 0), (-5, 0), 1, False, True],
        )


class ManyLooksTest(ChangesCase):
    def test_in_time(self):
        """Three looks and two grid times, with great bounds."""
        for seed in range(80):
            maker = Maker(seed, numbers=(-1000000000, -61, 59, 1000000000), bounds=(0, 59, 10 ** 9))
            setting = Setting(grid=(60, seed % 60), apart=(("a", 1 + seed * 17),), at_rows="a" if seed % 2 else None)
            reader = maker.reader(maker.looks(3, depth=4), 8)
            for feed in "ab":
                found = range_of(reader, feed, setting)
                for bound, beyond in zip(found or (), (-1, 1)):
                    if bound is not None:
                        self.assert_shown(reader, feed, bound, setting)
                        self.assert_none(reader, feed, bound + beyond, setting)

    def test_looks_of_each_kind_on_one_feed(self):
        first, second, third = "before(a, floor(now), 1000000)", "after(a, shift(time({}), 30), 1000000000)", \
            "before(a, ceil(time({})), 500, strict)"
        second = second.format(first)
        third = third.format(second)
        text = f"else(ifearlier(time({first}), time({third}), value({second}), missing), value({third}))"
        for setting in ("grid 60 7", "grid 10 3; apart a 45; on a; at a", "grid 60 0; apart a 20"):
            with self.subTest(setting=setting):
                reader, known = read_reader(text), Setting.read(setting)
                least, greatest = change_range(reader, "a", known)
                self.assert_shown(reader, "a", least, known)
                self.assert_shown(reader, "a", greatest, known)
                self.assert_none(reader, "a", least - 1, known)
                self.assert_none(reader, "a", greatest + 1, known)


class ChangeTest(unittest.TestCase):
    def test_equal_to_itself_alone(self):
        reader = read_reader("value(before(a, now))")
        change, again = change_at(reader, "a", 0, Setting()), change_at(reader, "a", 0, Setting())
        self.assertIs(change == change, True)
        self.assertIs(change == again, False)
        self.assertIs(change != again, True)
        for other in (None, True, (change.before, change.after, change.time), change.after):
            self.assertIs(change == other, False)
        self.assertIs(bool(change), True)


class LooksAheadTest(unittest.TestCase):
    def assert_looks_ahead(self, text, setting, expected):
        with self.subTest(text=text, setting=setting):
            self.assertIs(looks_ahead(read_reader(text), Setting.read(setting)), expected)

    def test_each_range(self):
        """A reader looks ahead if one of its change ranges goes above 0."""
        for text, feed, setting, _ in RANGES:
            reader, known = read_reader(text), Setting.read(setting)
            ranges = [range_of(reader, other, known) for other in "ab"]
            ahead = any(sides is not None and (sides[1] is None or sides[1] > 0) for sides in ranges)
            self.assert_looks_ahead(text, setting, ahead)
        for text, _, setting in NEVER:
            if text.count("(b") == 0:
                self.assert_looks_ahead(text, setting, False)

    def test_not_ahead(self):
        for text in ("missing", "constant(3)", "value(before(a, now))", "value(after(a, now, 0))",
                     "value(before(a, floor(shift(now, 0))))", "value(after(b, shift(now, -3), 3))",
                     "value(before(a, time(after(b, shift(now, -5), 5)), 9))",
                     "else(constant(1), value(after(a, now)))"):
            self.assert_looks_ahead(text, "grid 5 1", False)

    def test_ahead(self):
        for text in ("value(after(a, now))", "value(after(a, now, 1))", "value(before(a, shift(now, 1)))",
                     "value(before(a, ceil(now)))", "value(after(b, shift(now, -3), 4))",
                     "ifearlier(now, time(after(a, now, 1)), constant(1), missing)"):
            self.assert_looks_ahead(text, "grid 5 1", True)

    def test_settings(self):
        self.assert_looks_ahead("value(before(a, ceil(now)))", "grid 5 1; on b; at b", False)
        self.assert_looks_ahead("value(after(a, now, 4, strict))", "apart a 5; at a", False)
        self.assert_looks_ahead("value(after(a, now, 4, strict))", "apart a 4; at a", True)
        self.assert_looks_ahead("value(after(a, now, 4, strict))", "grid 5 1; on a; at a", False)
        self.assert_looks_ahead("value(after(a, now))", "at a", False)
        self.assert_looks_ahead("value(after(a, now))", "at b", True)


class ErrorsTest(RaisingCase):
    def test_no_reader(self):
        for wrong in NOT_READERS:
            self.assert_raised(NotAReader, wrong, change_range, wrong, "a", Setting())
            self.assert_raised(NotAReader, wrong, change_range, wrong, "A", None)
            self.assert_raised(NotAReader, wrong, change_at, wrong, "a", 0, Setting())
            self.assert_raised(NotAReader, wrong, change_at, setting=None, distance=None, feed="A", reader=wrong)
            self.assert_raised(NotAReader, wrong, looks_ahead, wrong, Setting())
            self.assert_raised(NotAReader, wrong, looks_ahead, wrong, None)

    def test_no_feed(self):
        gridded = read_reader("value(before(a, floor(now)))")
        for wrong in NOT_NAMES:
            for reader in (Missing(), gridded):
                self.assert_raised(InvalidName, wrong, change_range, reader, wrong, Setting())
                self.assert_raised(InvalidName, wrong, change_range, reader, wrong, None)
                self.assert_raised(InvalidName, wrong, change_at, reader, wrong, 0, Setting())
                self.assert_raised(InvalidName, wrong, change_at, reader, wrong, None, None)

    def test_no_distance(self):
        for wrong in NOT_INTEGERS:
            self.assert_raised(InvalidNumber, wrong, change_at, Constant(1), "a", wrong, Setting())
            self.assert_raised(InvalidNumber, wrong, change_at, Constant(1), "a", wrong, None)

    def test_no_setting(self):
        gridded = read_reader("value(before(a, floor(now)))")
        for wrong in NOT_SETTINGS:
            for reader in (Missing(), gridded):
                self.assert_raised(NotASetting, wrong, change_range, reader, "a", wrong)
                self.assert_raised(NotASetting, wrong, change_at, reader, "a", 0, wrong)
                self.assert_raised(NotASetting, wrong, looks_ahead, reader, wrong)

    def test_no_grid_ahead_of_never_changed(self):
        for text in ("value(before(a, floor(now)))", "ifearlier(now, ceil(now), missing, missing)"):
            for feed in "ab":
                self.assert_bare(NoGrid, change_range, read_reader(text), feed, Setting())
                self.assert_bare(NoGrid, change_at, read_reader(text), feed, 0, Setting(at_rows="a"))
            self.assert_bare(NoGrid, looks_ahead, read_reader(text), Setting(apart=(("a", 3),)))
        self.assert_raised(NeverChanged, "b", change_range, read_reader("value(before(a, floor(now)))"), "b",
                           Setting(grid=(1, 0)))


if __name__ == "__main__":
    unittest.main()
