import unittest

from latestrows.ages import age_range, example_aged
from latestrows.comparing import Example, outcomes
from latestrows.errors import InvalidName, InvalidNumber, NeverRead, NoGrid, NotAReader, NotASetting
from latestrows.readers import Constant, Missing
from latestrows.settings import Setting
from latestrows.texts import read_reader

from nested import Maker
from plain_runs import check_example
from raising import RaisingCase
from wrong_parts import NOT_READERS, NOT_SETTINGS
from wrong_values import NOT_INTEGERS, NOT_NAMES

FAR = 10 ** 59

BETWEEN = (
    "ifearlier(time(before(a, floor(now), 4)), shift(time(after(a, ceil(now), 4)), -1), "
    "value(before(a, floor(now), 4)), missing)"
)

# A reader, a feed, a setting, and the age range.
RANGES = [
    ("value(before(a, now))", "a", "any", (0, None)),
    ("value(before(a, now))", "a", "at b", (0, None)),
    ("value(before(a, now))", "a", "at a", (0, 0)),
    ("value(after(a, now))", "a", "any", (None, 0)),
    ("value(after(a, now))", "a", "at a", (0, 0)),
    ("value(before(a, now, strict))", "a", "any", (1, None)),
    ("value(before(a, now, strict))", "a", "apart a 7; at a", (7, None)),
    ("value(before(a, now, strict))", "a", "apart a 7", (1, None)),
    ("value(before(a, now, strict))", "a", "grid 5 0; on a; at a", (5, None)),
    ("value(before(a, now, 9, strict))", "a", "grid 5 0; on a; at a", (5, 5)),
    ("value(before(a, now, 5))", "a", "any", (0, 5)),
    ("value(before(a, now, 5, strict))", "a", "any", (1, 5)),
    ("value(after(a, now, 5))", "a", "any", (-5, 0)),
    ("value(after(a, now, 5, strict))", "a", "any", (-5, -1)),
    ("value(before(a, now, 0))", "a", "any", (0, 0)),
    ("value(before(a, now, 1000000000))", "a", "any", (0, 1000000000)),
    ("value(before(a, shift(now, 3)))", "a", "any", (-3, None)),
    ("value(before(a, shift(now, 3)))", "a", "at a", (-3, 0)),
    ("value(before(a, shift(now, 3)))", "a", "apart a 4; at a", (0, 0)),
    ("value(before(a, shift(now, 3)))", "a", "apart a 3; at a", (-3, 0)),
    ("value(before(a, shift(now, -1000000000), 1000000000))", "a", "any", (1000000000, 2000000000)),
    ("value(after(a, shift(shift(now, 1000000000), 1000000000), 1000000000))", "a", "any",
     (-3000000000, -2000000000)),
    # Rows of rows.
    ("value(before(a, time(before(b, now, 5)), 3, strict))", "a", "any", (1, 8)),
    ("value(before(a, time(before(b, now, 5)), 3, strict))", "a", "at b", (1, 3)),
    ("value(after(a, time(before(b, now, 5)), 3, strict))", "a", "any", (-3, 4)),
    ("value(after(a, time(before(a, now)), strict))", "a", "any", (None, -1)),
    ("value(after(a, time(before(a, now)), 4, strict))", "a", "any", (-4, -1)),
    ("value(before(a, time(before(a, now, 5)), 5, strict))", "a", "any", (1, 10)),
    ("value(before(a, time(before(a, now, 5)), 5, strict))", "a", "apart a 4", (4, 10)),
    ("value(before(a, time(before(a, now, 5)), 5, strict))", "a", "apart a 4; at a", (4, 5)),
    ("value(before(a, time(before(a, now, 5)), 5, strict))", "a", "grid 3 1; on a", (3, 8)),
    # What another look has not found.
    ("else(value(before(a, now, 5)), value(before(a, now, 9)))", "a", "any", (0, 9)),
    ("else(value(before(b, now, 3)), value(before(a, now, 9)))", "a", "any", (0, 9)),
    ("else(value(before(b, now, 3)), value(before(a, now, 9)))", "b", "any", (0, 3)),
    ("else(value(before(b, now, 3)), value(before(b, shift(now, 4), 9)))", "b", "any", (-4, 5)),
    ("else(value(before(a, now, 2)), value(before(a, shift(now, -5), 2)))", "a", "any", (0, 7)),
    ("else(ifearlier(now, time(before(a, now, 2)), constant(1), constant(1)), value(before(a, now, 9)))", "a", "any",
     (3, 9)),
    ("else(ifearlier(time(before(a, now, 2)), now, constant(1), missing), value(after(a, shift(now, -4), 9)))", "a",
     "any", (-5, 4)),
    # Comparisons of times.
    ("ifearlier(time(before(a, now)), shift(now, -4), missing, value(before(a, now)))", "a", "any", (0, 3)),
    ("ifearlier(time(before(a, now)), shift(now, -4), value(before(a, now)), missing)", "a", "any", (4, None)),
    ("ifearlier(time(before(a, now)), time(before(b, now)), value(before(b, now)), missing)", "b", "any", (0, None)),
    ("ifearlier(time(before(a, now, 9)), time(before(b, now, 5)), value(before(a, now, 9)), missing)", "a", "any",
     (0, 9)),
    ("ifearlier(time(before(a, now, 9)), time(before(b, now, 5)), missing, value(before(b, now, 5)))", "b", "any",
     (1, 5)),
    ("ifearlier(time(before(a, now, 9)), time(before(b, now, 5)), missing, value(before(a, now, 9)))", "a", "any",
     (0, 4)),
    # Grids.
    ("value(before(a, floor(now), 5))", "a", "grid 4 0", (0, 8)),
    ("value(before(a, floor(now), 5))", "a", "grid 1 0", (0, 5)),
    ("value(before(a, floor(now), 5))", "a", "grid 4 0; on a", (0, 7)),
    ("value(before(a, floor(now), 5))", "a", "grid 4 0; on a; at a", (0, 0)),
    ("value(before(a, floor(now), 5))", "a", "grid 4 0; on b; at b", (0, 5)),
    ("value(after(a, ceil(now), 59))", "a", "grid 60 7", (-118, 0)),
    ("value(after(a, ceil(now), 59))", "a", "grid 60 7; on a", (-59, 0)),
    ("value(before(a, ceil(now), 0))", "a", "grid 60 7", (-59, 0)),
    ("value(before(a, shift(floor(shift(now, 5)), -5), 0))", "a", "grid 7 2", (0, 6)),
    ("value(before(a, floor(time(before(b, floor(now), 3))), 0))", "a", "grid 5 2", (0, 9)),
    ("value(before(a, floor(time(before(b, floor(now), 3))), 0))", "a", "grid 5 2; on b", (0, 4)),
    # The grid leaves places between its points for one end of a chain of bounds only.
    ("ifearlier(now, ceil(time(after(a, floor(now)))), value(after(a, floor(now))), missing)", "a", "grid 3 0",
     (None, 1)),
    ("ifearlier(now, ceil(time(after(a, floor(now)))), value(after(a, floor(now))), missing)", "a", "grid 60 0",
     (None, 58)),
    ("ifearlier(floor(time(before(a, ceil(now)))), shift(now, -60), missing, value(before(a, ceil(now))))", "a",
     "grid 60 0", (-59, 59)),
    ("ifearlier(now, shift(ceil(shift(time(after(a, floor(now))), 20)), -20), value(after(a, floor(now))), missing)",
     "a", "grid 60 0", (None, 40)),
    ("ifearlier(shift(floor(shift(time(before(a, ceil(now))), -20)), 20), now, value(before(a, ceil(now))), missing)",
     "a", "grid 60 0", (-40, None)),
    (BETWEEN, "a", "grid 3 0; apart a 5; at a", (5, 6)),
]

NEVER = [
    ("missing", "a", "any"),
    ("constant(1)", "a", "any"),
    ("value(before(a, now))", "b", "any"),
    ("value(before(a, now))", "constant", "any"),
    ("value(before(a, time(before(b, now))))", "b", "any"),
    ("else(value(before(a, now, 5)), else(constant(0), value(after(b, now))))", "b", "any"),
    ("else(value(before(a, now)), value(before(b, now)))", "b", "at a"),
    ("value(before(a, now, 0, strict))", "a", "any"),
    ("ifearlier(now, time(after(a, now, 2)), missing, value(before(a, now, 9)))", "a", "any"),
    ("value(before(a, now, 4, strict))", "a", "grid 5 0; on a; at a"),
    ("value(before(a, now, 4, strict))", "a", "apart a 5; at a"),
    ("ifearlier(now, time(before(a, now, 5, strict)), value(before(a, now)), constant(1))", "a", "any"),
    ("else(ifearlier(time(before(a, now)), now, constant(1), missing), value(before(a, now)))", "a", "any"),
    ("ifearlier(ceil(now), floor(now), missing, value(before(a, now)))", "a", "grid 1 0"),
    (BETWEEN, "a", "grid 3 0; apart a 6; at a"),
]


def range_of(reader, feed, setting):
    try:
        return age_range(reader, feed, setting)
    except NeverRead:
        return None


class AgesCase(RaisingCase):
    def assert_shown(self, reader, feed, age, setting):
        example = example_aged(reader, feed, age, setting)
        self.assertIs(type(example), Example)
        row = check_example(self, example, [reader], setting)[0]
        self.assertEqual((len(row), row[0], example.time - row[1]), (3, feed, age))
        again = example_aged(reader, feed, age, setting)
        self.assertEqual((again.table, again.time), (example.table, example.time))

    def assert_range(self, reader, feed, setting, expected):
        found = age_range(reader, feed, setting)
        self.assertEqual(found, expected)
        self.assertIs(type(found), tuple)
        least, greatest = expected
        if least is None:
            self.assert_shown(reader, feed, -FAR, setting)
        else:
            self.assert_shown(reader, feed, least, setting)
            self.assertIs(example_aged(reader, feed, least - 1, setting), None)
            self.assertIs(example_aged(reader, feed, -FAR, setting), None)
        if greatest is None:
            # The next age that rows of feeds on the grid can have may be a step away.
            self.assertTrue(any(example_aged(reader, feed, FAR + more, setting) is not None for more in range(60)))
        else:
            self.assert_shown(reader, feed, greatest, setting)
            self.assertIs(example_aged(reader, feed, greatest + 1, setting), None)
            self.assertIs(example_aged(reader, feed, FAR, setting), None)


class RangesTest(AgesCase):
    def test_ranges(self):
        for text, feed, setting, expected in RANGES:
            with self.subTest(text=text, feed=feed, setting=setting):
                self.assert_range(read_reader(text), feed, Setting.read(setting), expected)

    def test_never_read(self):
        for text, feed, setting in NEVER:
            with self.subTest(text=text, feed=feed, setting=setting):
                reader = read_reader(text)
                self.assert_raised(NeverRead, feed, age_range, reader, feed, Setting.read(setting))
                for age in (-FAR, -1, 0, 1, 5, FAR):
                    self.assertIs(example_aged(reader, feed, age, Setting.read(setting)), None)

    def test_by_name(self):
        reader = read_reader("value(before(a, now, 5))")
        self.assertEqual(age_range(setting=Setting(), feed="a", reader=reader), (0, 5))
        self.assertIs(type(example_aged(age=3, setting=Setting(), feed="a", reader=reader)), Example)

    def test_ages_that_do_not_occur(self):
        reader = read_reader("else(value(before(a, now, 2)), value(before(a, shift(now, -5), 2)))")
        for age in range(-3, 12):
            if age in (0, 1, 2, 5, 6, 7):
                self.assert_shown(reader, "a", age, Setting())
            else:
                self.assertIs(example_aged(reader, "a", age, Setting()), None)
        reader = read_reader("value(before(a, now))")
        setting = Setting(grid=(5, 2), on_grid=("a", "b"), at_rows="b")
        for age in range(-3, 20):
            if age >= 0 and age % 5 == 0:
                self.assert_shown(reader, "a", age, setting)
            else:
                self.assertIs(example_aged(reader, "a", age, setting), None)
        self.assert_shown(reader, "a", 10 ** 59, setting)
        self.assertIs(example_aged(reader, "a", 10 ** 59 + 1, setting), None)

    def test_many_at_random(self):
        for seed in range(150):
            maker = Maker(seed)
            looks = maker.looks(seed % 3 + 1)
            reader = maker.reader(looks, seed % 5)
            setting = Setting.read(["grid 3 1", "grid 4 0; on a", "grid 2 1; apart a 3; at a", "grid 1 0"][seed % 4])
            read = outcomes(reader, setting)
            for feed in "ab":
                found = range_of(reader, feed, setting)
                self.assertIs(found is not None, f"row {feed}" in read)
                for age in range(-20, 21):
                    example = example_aged(reader, feed, age, setting)
                    if found is None or example is None:
                        self.assertIs(example, None)
                        self.assertNotIn(age, found or ())
                    else:
                        self.assertTrue(found[0] is None or found[0] <= age)
                        self.assertTrue(found[1] is None or age <= found[1])
                        row = check_example(self, example, [reader], setting)[0]
                        self.assertEqual((len(row), row[0], example.time - row[1]), (3, feed, age))

    def test_in_time(self):
        for seed in range(60):
            maker = Maker(seed, feeds=("a",), numbers=(-1000000000, -61, 59, 1000000000), bounds=(0, 59, 10 ** 9))
            setting = Setting(grid=(60, seed), apart=(("a", 1 + seed * 17),), at_rows="a" if seed % 2 else None)
            reader = maker.reader(maker.looks(3, depth=4), 8)
            found = range_of(reader, "a", setting)
            if found is not None:
                for age, beyond in zip(found, (-1, 1)):
                    if age is not None:
                        self.assert_shown(reader, "a", age, setting)
                        self.assertIs(example_aged(reader, "a", age + beyond, setting), None)

    def test_the_example_of_the_document(self):
        reader = read_reader("value(before(a, time(before(b, now, 5)), 3, strict))")
        shown = example_aged(reader, "a", 8, Setting())
        self.assertEqual(
            [age_range(reader, "a", Setting()), len(shown.table), example_aged(reader, "a", 0, Setting()),
             age_range(read_reader("value(after(a, now))"), "a", Setting())],
            [(1, 8), 2, None, (None, 0)],
        )


class ErrorsTest(RaisingCase):
    def test_no_reader(self):
        for wrong in NOT_READERS:
            self.assert_raised(NotAReader, wrong, age_range, wrong, "a", Setting())
            self.assert_raised(NotAReader, wrong, age_range, wrong, "A", None)
            self.assert_raised(NotAReader, wrong, example_aged, wrong, "a", 0, Setting())
            self.assert_raised(NotAReader, wrong, example_aged, setting=None, age=None, feed="A", reader=wrong)

    def test_no_feed(self):
        gridded = read_reader("value(before(a, floor(now)))")
        for wrong in NOT_NAMES:
            for reader in (Missing(), gridded):
                self.assert_raised(InvalidName, wrong, age_range, reader, wrong, Setting())
                self.assert_raised(InvalidName, wrong, age_range, reader, wrong, None)
                self.assert_raised(InvalidName, wrong, example_aged, reader, wrong, 0, Setting())
                self.assert_raised(InvalidName, wrong, example_aged, reader, wrong, None, None)

    def test_no_age(self):
        for wrong in NOT_INTEGERS:
            self.assert_raised(InvalidNumber, wrong, example_aged, Constant(1), "a", wrong, Setting())
            self.assert_raised(InvalidNumber, wrong, example_aged, Constant(1), "a", wrong, None)

    def test_no_setting(self):
        gridded = read_reader("value(before(a, floor(now)))")
        for wrong in NOT_SETTINGS:
            for reader in (Missing(), gridded):
                self.assert_raised(NotASetting, wrong, age_range, reader, "a", wrong)
                self.assert_raised(NotASetting, wrong, example_aged, reader, "a", 0, wrong)

    def test_no_grid_ahead_of_never_read(self):
        for text in ("value(before(a, floor(now)))", "ifearlier(now, ceil(now), missing, missing)"):
            for feed in "ab":
                self.assert_bare(NoGrid, age_range, read_reader(text), feed, Setting())
                self.assert_bare(NoGrid, example_aged, read_reader(text), feed, 0, Setting(at_rows="a"))
        self.assert_raised(NeverRead, "b", age_range, read_reader("value(before(a, floor(now)))"), "b",
                           Setting(grid=(1, 0)))


if __name__ == "__main__":
    unittest.main()
