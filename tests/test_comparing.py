import itertools
import unittest

from latestrows.comparing import Example, alike, difference, outcomes
from latestrows.errors import NoGrid, NotAReader, NotASetting
from latestrows.readers import Constant, Missing
from latestrows.running import read
from latestrows.settings import Setting
from latestrows.texts import read_reader

from nested import SOME_READERS, Maker
from plain_runs import check_example
from raising import RaisingCase
from wrong_parts import NOT_READERS, NOT_SETTINGS

NEAR = "value(before(a, now, {}))"
PLAIN = "value(before(a, now))"
LOW, HIGH = "time(before(a, floor(now), 4))", "time(after(a, ceil(now), 4))"

# Two readers, settings under which they are alike, and settings under which they are not.
PAIRS = [
    (NEAR.format(5), "else(value(before(a, now, 2)), value(before(a, now, 5)))", ["any", "at a", "apart a 3"], []),
    (NEAR.format(5), "else(value(before(a, now, 5)), value(before(a, now, 2)))", ["any"], []),
    (NEAR.format(5), "else(value(before(a, now, 6)), value(before(a, now, 5)))", [], ["any"]),
    (NEAR.format(5), NEAR.format(4), ["at a", "grid 6 0; on a; at a"], ["any", "at b", "apart a 9"]),
    (NEAR.format(1000000000), NEAR.format(999999999), ["at a"], ["any", "at b"]),
    (NEAR.format(1000000000), PLAIN, ["at a"], ["any"]),
    ("value(before(a, now, strict))", "value(before(a, shift(now, -1)))", ["any", "at a", "apart a 2"], []),
    ("value(after(a, now, strict))", "value(after(a, shift(now, 1)))", ["any", "at a"], []),
    ("value(before(a, now, 5, strict))", "value(before(a, shift(now, -1), 4))", ["any"], []),
    ("value(before(a, now, 5, strict))", "value(before(a, shift(now, -1), 5))", [], ["any"]),
    ("value(before(a, now, 0, strict))", "missing", ["any", "at a"], []),
    ("value(before(a, now, 1, strict))", "missing", ["apart a 2; at a"], ["any", "at a", "apart a 2"]),
    ("value(before(a, now))", "value(before(a, now, strict))", [], ["any", "at a"]),
    ("value(before(a, now, 0))", "value(after(a, now, 0))", ["any"], []),
    ("value(before(a, now))", "value(after(a, now))", ["at a"], ["any", "at b"]),
    ("value(before(a, now))", "value(before(b, now))", [], ["any", "at a"]),
    # Shifts that come to the same.
    ("value(before(a, shift(now, 1000000000)))", "value(before(a, shift(shift(now, 500000000), 500000000)))",
     ["any"], []),
    ("value(before(a, shift(now, 1000000000)))", "value(before(a, shift(shift(now, 500000000), 499999999)))",
     [], ["any", "apart a 1000000000"]),
    ("ifearlier(shift(now, 3), shift(shift(now, 1), 2), constant(1), missing)", "constant(1)", ["any"], []),
    ("ifearlier(shift(now, 3), shift(shift(now, 1), 1), constant(1), missing)", "missing", ["any"], []),
    # Looks inside looks.
    ("value(before(a, time(before(a, now))))", PLAIN, ["any", "at a"], []),
    ("value(after(a, time(before(a, now))))", PLAIN, ["any"], []),
    ("value(before(a, time(before(b, now))))", PLAIN, ["at b"], ["any", "at a"]),
    ("value(before(a, time(before(a, now, 3)), 3, strict))", "value(before(a, time(before(a, now, 3)), 2, strict))",
     ["apart a 4"], ["any", "apart a 3"]),
    ("value(after(a, time(before(a, now)), strict))", "value(after(a, now, strict))", ["at a"], ["any"]),
    ("else(value(after(a, time(before(a, now)), strict)), value(after(a, now, strict)))",
     "value(after(a, now, strict))", ["any"], []),
    ("value(before(a, time(after(a, now, strict)), strict))", PLAIN, [], ["any"]),
    ("else(value(before(a, time(after(a, now, strict)), strict)), value(before(a, now)))", PLAIN, ["any", "apart a 5"],
     []),
    # Parts that do nothing.
    (f"else(missing, {PLAIN})", PLAIN, ["any"], []),
    (f"else({PLAIN}, missing)", PLAIN, ["any"], []),
    (f"else({PLAIN}, {PLAIN})", PLAIN, ["any"], []),
    (f"else({PLAIN}, constant(1))", PLAIN, ["at a"], ["any", "at b"]),
    (f"ifearlier(now, now, {PLAIN}, constant(1))", PLAIN, ["any"], []),
    (f"ifearlier(time(before(a, now)), now, {PLAIN}, constant(1))", PLAIN, ["any"], []),
    (f"ifearlier(now, time(before(a, now)), {PLAIN}, {PLAIN})", PLAIN, ["any"], []),
    (f"ifearlier(now, time(before(b, now)), {PLAIN}, {PLAIN})", PLAIN, ["at b"], ["any", "at a"]),
    ("ifearlier(time(before(a, now)), now, constant(1), constant(2))", "constant(1)", ["at a"], ["any"]),
    ("ifearlier(time(before(a, now)), now, constant(1), missing)",
     "ifearlier(now, time(before(a, now)), constant(1), constant(1))", ["any"], []),
    ("ifearlier(time(before(a, now)), time(before(b, now)), value(before(a, now)), value(before(b, now)))",
     "ifearlier(time(before(b, now)), time(before(a, now)), value(before(b, now)), value(before(a, now)))",
     [], ["any", "at a"]),
    ("ifearlier(time(before(a, now)), time(after(a, now, strict)), constant(1), missing)",
     "ifearlier(now, time(after(a, now, strict)), ifearlier(time(before(a, now)), now, constant(1), missing), missing)",
     ["any"], []),
    # Constants, also ones that values could be like.
    ("constant(1)", "constant(1)", ["any"], []),
    ("constant(1)", "constant(2)", [], ["any", "at a"]),
    ("constant(0)", "missing", [], ["any", "at a"]),
    (PLAIN, "constant(1)", [], ["any", "at a"]),
    (f"else({PLAIN}, constant(1))", f"else({PLAIN}, constant(2))", ["at a"], ["any"]),
    # Distances.
    ("else(value(before(a, now, 2)), value(after(a, now, 2, strict)))",
     "else(value(after(a, now, 2, strict)), value(before(a, now, 2)))", ["apart a 5"],
     ["any", "apart a 4", "apart b 5"]),
    (PLAIN, "else(value(before(a, now, 4, strict)), value(before(a, now)))", ["apart a 5; at a", "apart a 5"],
     ["apart a 4; at a", "apart a 4", "apart b 5", "at a"]),
    ("value(before(a, time(before(a, now)), strict))", "value(before(a, shift(time(before(a, now)), -1000000000)))",
     ["apart a 1000000000"], ["apart a 999999999", "any"]),
    # Each row by itself can be another one than that of the question, but not both of them at once.
    (f"ifearlier({LOW}, {HIGH}, value(before(a, floor(now), 4)), missing)",
     f"ifearlier({LOW}, {HIGH}, value(after(a, ceil(now), 4)), missing)", ["grid 3 0; apart a 6; at a"],
     ["grid 3 0; apart a 5; at a", "grid 3 0; apart a 6", "grid 5 0; apart a 6; at a"]),
    # Grids.
    ("value(before(a, floor(now)))", PLAIN, ["grid 2 0; on a", "grid 1 0", "grid 2 0; on b; at b", "grid 60 7; on a"],
     ["grid 2 0", "grid 2 0; on b", "grid 2 0; at b"]),
    ("value(after(a, ceil(now)))", "value(after(a, now))", ["grid 2 0; on a", "grid 1 0"], ["grid 2 1"]),
    ("value(before(a, ceil(now)))", PLAIN, ["grid 1 0", "grid 7 3; on b; at b"], ["grid 7 3; on a", "grid 2 0"]),
    ("value(before(a, ceil(now), strict))", "value(before(a, floor(now)))", [], ["grid 2 0; on a", "grid 2 0"]),
    ("ifearlier(ceil(now), floor(now), missing, value(before(a, ceil(now), strict)))",
     "ifearlier(ceil(now), floor(now), missing, value(before(a, floor(now))))", ["grid 2 0; on a", "grid 1 0"],
     ["grid 2 0"]),
    ("ifearlier(floor(now), now, constant(1), constant(2))", "constant(1)", ["grid 5 0"], []),
    ("ifearlier(now, shift(floor(now), 4), constant(1), constant(2))", "constant(1)", ["grid 5 0", "grid 1 0"],
     ["grid 6 0", "grid 60 0"]),
    ("ifearlier(ceil(now), floor(now), constant(1), constant(2))", "constant(1)", ["grid 1 0", "grid 4 1; on a; at a"],
     ["grid 2 0", "grid 4 1; on a", "grid 4 1; on a; at b"]),
    ("ifearlier(shift(floor(now), 5), ceil(shift(now, 1)), constant(1), missing)", "constant(1)",
     ["grid 5 2", "grid 6 0"], ["grid 4 0"]),
    ("value(before(a, floor(shift(now, 60)), 0))", "value(before(a, shift(floor(now), 60), 0))",
     ["grid 60 1", "grid 5 1", "grid 1 0"], ["grid 7 1", "grid 59 0"]),
    # Differences of times on the grid are multiples of the step.
    ("value(before(a, time(before(b, now)), 14))", "value(before(a, time(before(b, now)), 10))",
     ["grid 10 0; on a; on b", "grid 5 3; on a; on b"], ["any", "grid 10 0; on a", "grid 7 0; on a; on b"]),
    ("value(before(a, floor(now), 59))", "value(before(a, floor(now), 0))", ["grid 60 3; on a"],
     ["grid 60 3", "grid 59 3; on a"]),
    ("value(before(a, now, 4, strict))", "missing", ["grid 5 0; on a; at a", "grid 5 0; on a; on b; at b"],
     ["grid 5 0; on a", "grid 4 0; on a; at a", "grid 5 0; at a"]),
    ("else(value(before(a, now, 2)), value(after(a, now, 2)))",
     "else(value(after(a, now, 2)), value(before(a, now, 2)))", ["grid 5 0; on a", "apart a 5"],
     ["grid 4 0; on a", "any", "apart a 4"]),
]


class PairsTest(unittest.TestCase):
    def assert_shown(self, first, second, setting):
        for readers in ((first, second), (second, first)):
            self.assertIs(alike(*readers, setting), False)
            example = difference(*readers, setting)
            given = check_example(self, example, readers, setting)
            self.assertIs(type(example), Example)
            self.assertNotEqual(*[None if row is None else row[-1] for row in given])
            self.assertNotEqual(*[read(reader, example.table, example.time, grid=setting.grid) for reader in readers])
            again = difference(*readers, setting)
            self.assertEqual((example.table, example.time), (again.table, again.time))

    def test_pairs(self):
        for first, second, alike_under, unlike_under in PAIRS:
            readers = read_reader(first), read_reader(second)
            for text in alike_under:
                with self.subTest(first=first, second=second, setting=text):
                    for pair in (readers, readers[::-1]):
                        self.assertIs(alike(*pair, Setting.read(text)), True)
                        self.assertIs(difference(*pair, Setting.read(text)), None)
            for text in unlike_under:
                with self.subTest(first=first, second=second, setting=text):
                    self.assert_shown(*readers, Setting.read(text))

    def test_a_reader_with_itself(self):
        setting = Setting(grid=(3, 1), apart=(("a", 2),))
        for reader in SOME_READERS:
            self.assertIs(alike(reader, reader, setting), True)
            self.assertIs(difference(reader, reader, setting), None)
        for seed in range(100):
            maker = Maker(seed)
            reader = maker.reader(maker.looks(3), 5)
            self.assertIs(alike(reader, read_reader(str(reader)), setting), True)

    def test_by_name(self):
        first, second = read_reader(PLAIN), Missing()
        self.assertIs(alike(setting=Setting(), other=second, reader=first), False)
        self.assertIs(type(difference(setting=Setting(), other=second, reader=first)), Example)
        self.assertEqual(outcomes(setting=Setting(), reader=first), ("missing", "row a"))

    def test_as_few_rows_as_looks(self):
        first = read_reader("value(before(a, time(before(b, time(before(c, now))))))")
        second = read_reader("value(before(a, time(before(b, time(before(d, now))))))")
        self.assert_shown(first, second, Setting())
        self.assert_shown(first, second, Setting(at_rows="e"))
        self.assert_shown(read_reader(PLAIN), Missing(), Setting(at_rows="b"))
        self.assertEqual(len(difference(Constant(1), Constant(2), Setting()).table), 0)
        self.assertEqual(len(difference(Constant(1), Constant(2), Setting(at_rows="b")).table), 1)

    def test_values_that_are_unlike_the_constants(self):
        for number in range(-5, 20):
            for text in ("constant({})", "else(value(before(b, now)), constant({}))",
                         "ifearlier(now, time(before(a, now)), constant({}), value(before(b, now)))"):
                reader = read_reader(text.format(number))
                for setting in (Setting(), Setting(at_rows="a"), Setting(at_rows="b")):
                    self.assert_shown(read_reader(PLAIN), reader, setting)

    def test_the_example_of_the_document(self):
        plain, floored = read_reader("value(before(a, now))"), read_reader("value(before(a, floor(now)))")
        near = read_reader("value(before(a, now, 5))")
        both = read_reader("else(value(before(a, now, 2)), value(before(a, now, 5)))")
        grid, on = Setting(grid=(2, 0)), Setting(grid=(2, 0), on_grid=("a",))
        shown = difference(plain, floored, grid)
        self.assertEqual(
            [alike(near, both, Setting()), alike(plain, floored, on), len(shown.table) <= 2,
             difference(plain, floored, on), outcomes(near | read_reader("constant(0)"), Setting())],
            [True, True, True, None, ("constant 0", "row a")],
        )


class ManyLooksTest(unittest.TestCase):
    """Three looks and two grid times each, on one feed, with great bounds."""

    def test_in_time(self):
        for seed in range(60):
            maker = Maker(seed, feeds=("a",), numbers=(-1000000000, -61, 59, 1000000000), bounds=(0, 59, 10 ** 9))
            setting = Setting(grid=(60, seed % 60), apart=(("a", 1 + seed * 17),), at_rows="a" if seed % 2 else None)
            looks = maker.looks(3, depth=4)
            first, second = maker.reader(looks, 8), maker.reader(looks, 8)
            other = maker.reader(maker.looks(3, depth=4), 8)
            shifted = first.at(read_reader("value(before(a, shift(now, 0)))").look.time)
            self.assertIs(alike(first, shifted, setting), True)
            for pair in ((first, second), (first, other), (shifted, second)):
                example = difference(*pair, setting)
                self.assertIs(alike(*pair, setting), example is None)
                self.assertIs(alike(*pair[::-1], setting), example is None)
                if example is not None:
                    given = check_example(self, example, pair, setting)
                    self.assertNotEqual(*[None if row is None else row[-1] for row in given])


class ExampleTest(unittest.TestCase):
    def test_equal_to_itself_alone(self):
        readers = read_reader(PLAIN), Missing()
        example, again = difference(*readers, Setting()), difference(*readers, Setting())
        self.assertEqual((example.table, example.time), (again.table, again.time))
        self.assertIs(example == example, True)
        self.assertIs(example == again, False)
        self.assertIs(example != again, True)
        for other in (None, True, (example.table, example.time), example.table):
            self.assertIs(example == other, False)
        self.assertIs(bool(example), True)


class OutcomesTest(unittest.TestCase):
    def assert_outcomes(self, text, expected, setting="any"):
        self.assertEqual(outcomes(read_reader(text), Setting.read(setting)), expected)

    def test_each_kind(self):
        self.assert_outcomes("missing", ("missing",))
        self.assert_outcomes("constant(-5)", ("constant -5",))
        self.assert_outcomes(PLAIN, ("missing", "row a"))
        self.assert_outcomes(PLAIN, ("row a",), "at a")
        self.assert_outcomes(f"else({PLAIN}, constant({10 ** 59}))", (f"constant {10 ** 59}", "row a"))

    def test_ascending_as_texts(self):
        text = "constant(9)"
        for number in (10, 100, -1, -10, 0, 2):
            text = f"ifearlier(now, time(before(a, now, {abs(number) % 3})), constant({number}), {text})"
        found = outcomes(read_reader(text), Setting())
        self.assertEqual(found, tuple(sorted(found)))
        text = "ifearlier(now, time(after(x, now)), constant(9), constant(10))"
        self.assert_outcomes(text, ("constant 9", "missing"))
        text = "ifearlier(time(before(x, now)), shift(now, -5), constant(9), constant(10))"
        self.assert_outcomes(text, ("constant 10", "constant 9", "missing"))
        row = "value(before(a9, time(before(a10, now))))"
        text = f"else(ifearlier(time(before(x, now)), shift(now, -5), constant(-1), {row}), value(before(a10, now)))"
        self.assert_outcomes(text, ("constant -1", "missing", "row a10", "row a9"))

    def test_those_that_occur_alone(self):
        self.assert_outcomes("else(value(before(a, now)), value(before(a, now, 5)))", ("missing", "row a"))
        self.assert_outcomes("else(constant(1), value(before(a, now)))", ("constant 1",))
        self.assert_outcomes("else(missing, constant(1))", ("constant 1",))
        text = "ifearlier(time(before(a, now)), now, constant(1), constant(2))"
        self.assert_outcomes(text, ("constant 1", "missing"))
        text = "ifearlier(time(before(a, now, 5)), shift(now, -{}), constant(1), constant(2))"
        self.assert_outcomes(text.format(5), ("constant 1", "constant 2", "missing"))
        self.assert_outcomes(text.format(6), ("constant 2", "missing"))
        self.assert_outcomes(text.format(5), ("constant 2",), "at a")
        self.assert_outcomes(text.format(5), ("constant 2", "missing"), "grid 7 0; on a; on b; at b")
        text = "ifearlier(ceil(now), floor(now), constant(1), constant(2))"
        self.assert_outcomes(text, ("constant 1", "constant 2"), "grid 2 0")
        self.assert_outcomes(text, ("constant 1",), "grid 1 0")
        self.assert_outcomes(text, ("constant 1",), "grid 2 1; on a; at a")
        row = "time(before(a, now))"
        text = f"ifearlier(time(after(a, {row}, strict)), shift({row}, 4), constant(1), missing)"
        self.assert_outcomes(text, ("constant 1", "missing"), "apart a 4")
        self.assert_outcomes(text, ("missing",), "apart a 5")

    def test_what_cannot_be_at_once(self):
        text = f"ifearlier({LOW}, shift({HIGH}, -1), constant(1), constant(2))"
        self.assert_outcomes(text, ("constant 2", "missing"), "grid 3 0; apart a 6; at a")
        self.assert_outcomes(text, ("constant 1", "constant 2", "missing"), "grid 3 0; apart a 5; at a")

    def test_equal_calls(self):
        for seed in range(50):
            maker = Maker(seed)
            reader = maker.reader(maker.looks(3), 5)
            setting = Setting(grid=(3, 1))
            found = outcomes(reader, setting)
            self.assertIs(type(found), tuple)
            self.assertEqual(found, outcomes(read_reader(str(reader)), Setting(grid=(3, 1))))
            self.assertEqual(found, tuple(sorted(set(found))))
            self.assertGreater(len(found), 0)


class ErrorsTest(RaisingCase):
    def test_no_readers(self):
        for call in (alike, difference):
            for wrong in NOT_READERS:
                self.assert_raised(NotAReader, wrong, call, wrong, Missing(), Setting())
                self.assert_raised(NotAReader, wrong, call, Missing(), wrong, Setting())
                self.assert_raised(NotAReader, wrong, call, wrong, None, None)
                self.assert_raised(NotAReader, wrong, call, Missing(), wrong, None)
                self.assert_raised(NotAReader, wrong, call, setting=None, other=None, reader=wrong)
        for wrong in NOT_READERS:
            self.assert_raised(NotAReader, wrong, outcomes, wrong, Setting())
            self.assert_raised(NotAReader, wrong, outcomes, wrong, None)

    def test_no_setting(self):
        gridded = read_reader("value(before(a, floor(now)))")
        for wrong in NOT_SETTINGS:
            for reader in (Missing(), gridded):
                self.assert_raised(NotASetting, wrong, alike, reader, Missing(), wrong)
                self.assert_raised(NotASetting, wrong, difference, Missing(), reader, wrong)
                self.assert_raised(NotASetting, wrong, outcomes, reader, wrong)

    def test_no_grid(self):
        gridded = [read_reader(text) for text in (
            "value(before(a, floor(now)))", "else(constant(1), value(before(a, time(before(b, ceil(now))))))",
            "ifearlier(now, ceil(now), missing, missing)",
        )]
        for reader, setting in itertools.product(gridded, (Setting(), Setting(apart=(("a", 3),), at_rows="a"))):
            for call in (alike, difference):
                self.assert_bare(NoGrid, call, reader, Missing(), setting)
                self.assert_bare(NoGrid, call, Missing(), reader, setting)
                self.assert_bare(NoGrid, call, reader, reader, setting)
                self.assert_raised(NotAReader, None, call, reader, None, setting)
            self.assert_bare(NoGrid, outcomes, reader, setting)
            self.assertIs(alike(reader, reader, Setting(grid=(1, 0))), True)


if __name__ == "__main__":
    unittest.main()
