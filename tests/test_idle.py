import unittest

from latestrows.comparing import alike
from latestrows.errors import NoGrid, NotAReader, NotASetting
from latestrows.idle import idle_bounds, idle_parts
from latestrows.readers import Missing
from latestrows.settings import Setting
from latestrows.texts import read_reader

from nested import Maker
from plain_runs import plain_read, small_tables
from raising import RaisingCase
from wrong_parts import NOT_READERS, NOT_SETTINGS

A, B = "value(before(a, now))", "value(before(b, now))"
NEAR = "value(before(a, now, {}))"
TWO = f"else({NEAR.format(5)}, {NEAR.format(2)})"
BACK = f"else({NEAR.format(2)}, {NEAR.format(5)})"
CLOSE = "else(value(before(a, now, 4, strict)), value(before(a, now, 9, strict)))"

# A reader, a setting, and the indexes of the idle parts.
PARTS = [
    ("missing", "any", ()),
    ("constant(1)", "any", ()),
    (A, "any", ()),
    (TWO, "any", (2,)),
    (BACK, "any", (1,)),
    (f"else({A}, constant(0))", "any", ()),
    (f"else({A}, constant(0))", "at a", (2,)),
    (f"else({A}, constant(0))", "at b", ()),
    (f"else(missing, {A})", "any", (1,)),
    (f"else({A}, missing)", "any", (2,)),
    # The reader itself is never idle, not even if it gives nothing.
    ("else(missing, missing)", "any", (1, 2)),
    ("value(before(a, now, 0, strict))", "any", ()),
    # Equal parts at different places, each by itself.
    (f"else({A}, {A})", "any", (1, 2)),
    (f"else({A}, else({A}, {A}))", "any", (1, 2, 3, 4)),
    (f"else(else({A}, constant(1)), {A})", "any", (4,)),
    (f"ifearlier(now, time(before(b, now)), {A}, {A})", "any", ()),
    (f"ifearlier(now, time(before(b, now)), {A}, {A})", "at b", (2,)),
    (f"ifearlier(now, now, {A}, {B})", "any", (2,)),
    (f"ifearlier(shift(now, 1), now, {A}, {B})", "any", (1,)),
    (f"ifearlier(time(before(b, now)), now, else({A}, {B}), constant(3))", "any", (4,)),
    # Each part of a setting.
    (CLOSE, "any", (1,)),
    (CLOSE, "at a", (1,)),
    (CLOSE, "apart a 5; at a", (1,)),
    (CLOSE, "apart a 10; at a", (1, 2)),
    (CLOSE, "grid 5 0; on a; at a", (1,)),
    (CLOSE, "grid 10 0; on a; at a", (1, 2)),
    ("else(value(before(a, floor(now))), value(before(a, now)))", "grid 5 0", ()),
    ("else(value(before(a, floor(now))), value(before(a, now)))", "grid 1 0", (1, 2)),
    ("else(value(before(a, floor(now))), value(before(a, now)))", "grid 5 0; on a", (1, 2)),
    ("else(value(before(a, floor(now))), value(before(a, now)))", "grid 5 0; on b; at b", (1, 2)),
    ("else(value(before(a, floor(now))), value(before(a, now)))", "grid 5 0; on b", ()),
]

# A reader, a setting, and the indexes of the looks with idle bounds.
BOUNDS = [
    ("missing", "any", ()),
    (A, "at a", ()),
    (NEAR.format(5), "any", ()),
    (NEAR.format(5), "at a", (0,)),
    (NEAR.format(5), "at b", ()),
    (NEAR.format(1000000000), "any", ()),
    (TWO, "any", ()),
    (BACK, "any", ()),
    (TWO, "at a", (0, 1)),
    # Looks in the order of their texts; those without a bound are never among them.
    (f"else({NEAR.format(5)}, else({NEAR.format(2)}, {A}))", "any", (1, 2)),
    (f"else({A}, {NEAR.format(5)})", "any", (1,)),
    (f"else({NEAR.format(5)}, {A})", "any", (1,)),
    (f"else({NEAR.format(5)}, {B})", "any", ()),
    # Each place of the look, also inside times of other looks.
    ("value(before(b, time(before(a, now, 5)), 3))", "any", ()),
    ("value(before(b, time(before(a, now, 5)), 3))", "at a", (0,)),
    ("value(before(b, time(before(a, now, 5)), 3))", "at b", ()),
    ("else(value(before(a, now, 5)), value(before(b, time(before(a, now, 5)))))", "any", ()),
    ("else(value(before(a, time(before(a, now, 5)), 7)), constant(1))", "any", (1,)),
    ("ifearlier(time(before(a, now, 5)), now, value(before(a, now, 5)), constant(1))", "at a", (0,)),
    ("ifearlier(now, time(after(a, now, 9)), ifearlier(time(before(a, now, 5)), now, constant(1), missing), missing)",
     "any", ()),
    ("ifearlier(now, time(after(a, now, 9)), ifearlier(time(before(a, now, 5)), now, constant(1), missing), missing)",
     "at a", (0, 1)),
    # Each part of a setting.
    ("value(after(a, time(before(a, now)), 4))", "any", (0,)),
    ("value(before(a, floor(now), 4))", "grid 5 0; on a; on b; at b", ()),
    ("value(before(a, floor(now), 4))", "grid 5 0; on a; at a", (0,)),
    ("value(before(a, floor(now), 4))", "grid 5 0; at a", ()),
    ("else(value(before(a, now, 4, strict)), value(before(a, now, 9)))", "at a", (1,)),
    ("ifearlier(shift(now, -9), time(before(a, now, 9, strict)), value(before(a, now, 9, strict)), missing)",
     "any", (0,)),
]


class IdleTest(unittest.TestCase):
    def test_parts(self):
        for text, setting, expected in PARTS:
            with self.subTest(text=text, setting=setting):
                found = idle_parts(read_reader(text), Setting.read(setting))
                self.assertEqual(found, expected)
                self.assertIs(type(found), tuple)

    def test_bounds(self):
        for text, setting, expected in BOUNDS:
            with self.subTest(text=text, setting=setting):
                found = idle_bounds(read_reader(text), Setting.read(setting))
                self.assertEqual(found, expected)
                self.assertIs(type(found), tuple)

    def test_by_name(self):
        self.assertEqual(idle_parts(setting=Setting(), reader=read_reader(TWO)), (2,))
        self.assertEqual(idle_bounds(setting=Setting(at_rows="a"), reader=read_reader(TWO)), (0, 1))

    def test_the_example_of_the_document(self):
        reader = read_reader("else(value(before(a, now, 5)), value(before(a, now, 2)))")
        self.assertEqual(
            [idle_parts(reader, Setting()), idle_bounds(reader, Setting()),
             idle_bounds(read_reader("value(before(a, now, 5))"), Setting(at_rows="a"))],
            [(2,), (), (0,)],
        )

    def test_many_at_random(self):
        """Idle is what gives the same on all small tables without it; what is not idle is not alike."""
        settings = ["any", "apart a 3; at a", "grid 2 1", "grid 3 0; on a", "grid 3 1; on b; at b", "at a"]
        for number, text in enumerate(settings):
            setting = Setting.read(text)
            tables = list(small_tables(setting, "ab", 3, 2))
            for seed in range(number * 20, (number + 1) * 20):
                maker = Maker(seed, grid=setting.grid is not None)
                reader = maker.reader(maker.looks(seed % 3 + 1), seed % 4 + 1)
                changed = [(index in idle_parts(reader, setting), reader.replaced(index, Missing()))
                           for index in range(1, len(reader.parts))]
                changed += [(index in idle_bounds(reader, setting), reader.without_bound(look))
                            for index, look in enumerate(reader.looks) if look.within is not None]
                for is_idle, other in changed:
                    self.assertIs(alike(reader, other, setting), is_idle)
                    if is_idle:
                        for rows, asked in tables:
                            given = [plain_read(one, rows, asked, setting.grid) for one in (reader, other)]
                            self.assertEqual(*given)
                self.assertEqual([look for look in idle_bounds(reader, setting) if reader.looks[look].within is None],
                                 [])
                self.assertNotIn(0, idle_parts(reader, setting))


class ErrorsTest(RaisingCase):
    def test_errors(self):
        gridded = read_reader("else(value(before(a, floor(now), 5)), missing)")
        for call in (idle_parts, idle_bounds):
            for wrong in NOT_READERS:
                self.assert_raised(NotAReader, wrong, call, wrong, Setting())
                self.assert_raised(NotAReader, wrong, call, wrong, None)
            for wrong in NOT_SETTINGS:
                self.assert_raised(NotASetting, wrong, call, Missing(), wrong)
                self.assert_raised(NotASetting, wrong, call, gridded, wrong)
            self.assert_bare(NoGrid, call, gridded, Setting())
            self.assert_bare(NoGrid, call, read_reader("ifearlier(now, ceil(now), missing, missing)"),
                             Setting(apart=(("a", 3),), at_rows="a"))


if __name__ == "__main__":
    unittest.main()
