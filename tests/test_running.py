import unittest

from latestrows.errors import (
    InvalidGrid, InvalidTime, NoGrid, NotALook, NotAReader, NotATable,
)
from latestrows.readers import Constant, Missing, Value
from latestrows.running import find, outcome, read
from latestrows.settings import Setting
from latestrows.tables import Table
from latestrows.texts import read_look, read_reader
from latestrows.times import After, Before, Ceil, Floor, Now, RowTime

from nested import LOOK, SOME_LOOKS, SOME_READERS, Maker
from plain_runs import plain_find, plain_outcome, plain_read, small_tables
from raising import RaisingCase
from wrong_parts import NOT_LOOKS, NOT_READERS
from wrong_values import INTEGERS, NOT_GRIDS, NOT_INTEGERS, EqualToAll, NoTruth

NOT_TABLES = [None, True, 0, "", (), (("a", 1, 2),), [], [("a", 1, 2)], Table, Setting(), object(), EqualToAll(),
              NoTruth()]
TABLE = Table(("a", -10, 1), ("a", -3, 2), ("a", 0, 3), ("a", 4, 4), ("b", 4, 5), ("b", 5, 6), ("c", 100, 7))


class LooksTest(unittest.TestCase):
    def assert_found(self, text, time, row, table=TABLE, grid=None):
        look = read_look(text)
        found = find(look, table, time, grid=grid)
        self.assertEqual(found, row)
        self.assertEqual(found, plain_find(look, table.rows, time, grid))
        value = None if row is None else row[2]
        self.assertEqual(outcome(Value(look), table, time, grid=grid), row)
        self.assertEqual(read(Value(look), table, time, grid=grid), value)

    def test_before(self):
        for time, row in [(-11, None), (-10, ("a", -10, 1)), (-9, ("a", -10, 1)), (-4, ("a", -10, 1)),
                          (-3, ("a", -3, 2)), (-1, ("a", -3, 2)), (0, ("a", 0, 3)), (3, ("a", 0, 3)),
                          (4, ("a", 4, 4)), (5, ("a", 4, 4)), (10 ** 59, ("a", 4, 4)), (-(10 ** 59), None)]:
            self.assert_found("before(a, now)", time, row)

    def test_before_strict(self):
        for time, row in [(-10, None), (-9, ("a", -10, 1)), (-3, ("a", -10, 1)), (-2, ("a", -3, 2)), (0, ("a", -3, 2)),
                          (1, ("a", 0, 3)), (4, ("a", 0, 3)), (5, ("a", 4, 4))]:
            self.assert_found("before(a, now, strict)", time, row)

    def test_after(self):
        for time, row in [(-11, ("a", -10, 1)), (-10, ("a", -10, 1)), (-9, ("a", -3, 2)), (-3, ("a", -3, 2)),
                          (-2, ("a", 0, 3)), (0, ("a", 0, 3)), (1, ("a", 4, 4)), (4, ("a", 4, 4)), (5, None),
                          (-(10 ** 59), ("a", -10, 1)), (10 ** 59, None)]:
            self.assert_found("after(a, now)", time, row)

    def test_after_strict(self):
        for time, row in [(-11, ("a", -10, 1)), (-10, ("a", -3, 2)), (-3, ("a", 0, 3)), (0, ("a", 4, 4)),
                          (3, ("a", 4, 4)), (4, None)]:
            self.assert_found("after(a, now, strict)", time, row)

    def test_bounds(self):
        for within in (0, 1, 3, 5, 1000000000):
            for away in range(0, 8):
                found = None if away > within else ("a", 0, 9)
                strictly = None if away == 0 else found
                table = Table(("a", 0, 9))
                self.assert_found(f"before(a, now, {within})", away, found, table)
                self.assert_found(f"after(a, now, {within})", -away, found, table)
                self.assert_found(f"before(a, now, {within}, strict)", away, strictly, table)
                self.assert_found(f"after(a, now, {within}, strict)", -away, strictly, table)
        for word, sign in (("before", 1), ("after", -1)):
            table = Table(("a", 7, 9))
            self.assert_found(f"{word}(a, now, 1000000000)", 7 + sign * 1000000000, ("a", 7, 9), table)
            self.assert_found(f"{word}(a, now, 1000000000)", 7 + sign * 1000000001, None, table)

    def test_other_feeds_and_no_rows(self):
        for word in ("before", "after"):
            self.assert_found(f"{word}(b, now)", 4, ("b", 4, 5))
            self.assert_found(f"{word}(d, now)", 4, None)
            self.assert_found(f"{word}(a, now)", 4, None, Table())
        self.assert_found("before(c, now)", 99, None)
        self.assert_found("before(b, now)", 3, None)

    def test_the_row_is_that_of_the_table(self):
        row = tuple(["a", 2 ** 70, 5])
        table = Table(row)
        self.assertIs(find(LOOK, table, 2 ** 70 + 1), row)


class TimesTest(unittest.TestCase):
    def assert_time(self, time, asked, value, grid=None):
        """The time has this value: the only row that is found is one at it."""
        for away in (-1, 0, 1):
            row = None if value is None or away != 0 else ("z", value, 1)
            table = Table(*TABLE, ("z", (value or 0) + away, 1))
            for made in (Before, After):
                self.assertEqual(find(made("z", time, within=0), table, asked, grid=grid), row)

    def test_now_and_shifts(self):
        for asked in (-7, 0, 3, 10 ** 59):
            self.assert_time(Now(), asked, asked)
            self.assert_time(Now() + 3, asked, asked + 3)
            self.assert_time(Now() - 1000000000 + 1, asked, asked - 999999999)

    def test_grid_times_on_all_rests(self):
        for step in (1, 2, 3, 7, 60):
            for offset in sorted({0, 1 % step, step // 2, step - 1}):
                points = range(offset - 3 * step, offset + 4 * step, step)
                for asked in range(-2 * step, 2 * step + 1):
                    floor = max([point for point in points if point <= asked])
                    ceil = min([point for point in points if point >= asked])
                    self.assert_time(Floor(Now()), asked, floor, (step, offset))
                    self.assert_time(Ceil(Now()), asked, ceil, (step, offset))
        self.assert_time(Floor(Now() - 1), 6, 1, (5, 1))
        self.assert_time(Floor(Now()) - 1, 6, 5, (5, 1))
        self.assert_time(Ceil(Floor(Now()) + 1), 8, 11, (5, 1))
        self.assert_time(Floor(Now()), -(10 ** 59), -(10 ** 59), (10, 0))
        self.assert_time(Ceil(Now()), -(10 ** 59) + 1, -(10 ** 59) + 10, (10, 0))

    def test_times_of_rows(self):
        self.assert_time(RowTime(Before("a", Now())), 3, 0)
        self.assert_time(RowTime(After("a", Now())), 3, 4)
        self.assert_time(RowTime(After("b", RowTime(Before("a", Now())) - 1)) + 1, 3, 5)
        self.assert_time(Ceil(RowTime(Before("a", Now(), strict=True))), 4, 1, (6, 1))

    def test_times_that_fail(self):
        for look in (Before("a", Now(), within=2), Before("d", Now()), After("a", Now() + 100)):
            for time in (RowTime(look), RowTime(look) + 1, Floor(RowTime(look)), Ceil(RowTime(look) - 1),
                         RowTime(Before("a", RowTime(look))), RowTime(After("b", Floor(RowTime(look)) + 1))):
                self.assert_time(time, -5, None, (4, 0))


class ReadersTest(unittest.TestCase):
    def assert_given(self, text, time, given, table=TABLE, grid=None):
        reader = read_reader(text)
        self.assertEqual(outcome(reader, table, time, grid=grid), given)
        self.assertEqual(read(reader, table, time, grid=grid), None if given is None else given[-1])
        self.assertEqual(plain_outcome(reader, table.rows, time, grid), given)

    def test_constants_and_nothing(self):
        for number in INTEGERS:
            self.assertEqual(outcome(Constant(number), TABLE, 0), ("constant", number))
            self.assertEqual(read(Constant(number), Table(), 0), number)
        self.assertIs(outcome(Missing(), TABLE, 0), None)
        self.assertIs(read(Missing(), TABLE, 0), None)

    def test_else(self):
        self.assert_given("else(value(before(a, now, 2)), value(before(a, now, 6)))", 2, ("a", 0, 3))
        self.assert_given("else(value(before(a, now, 2)), value(before(b, now)))", 8, ("b", 5, 6))
        self.assert_given("else(value(before(d, now)), constant(0))", 8, ("constant", 0))
        self.assert_given("else(missing, missing)", 8, None)
        self.assert_given("else(constant(0), constant(1))", 8, ("constant", 0))
        self.assert_given("else(else(missing, constant(3)), constant(1))", 8, ("constant", 3))
        # A value of 0 is something.
        self.assert_given("else(value(before(a, now)), constant(1))", 8, ("a", 4, 0), Table(("a", 4, 0)))

    def test_ifearlier(self):
        text = "ifearlier(shift(now, {}), time(before(a, now)), constant(1), constant(2))"
        self.assert_given(text.format(-3), 7, ("constant", 1))
        self.assert_given(text.format(-2), 7, ("constant", 2))
        self.assert_given(text.format(-4), 7, ("constant", 1))
        self.assert_given("ifearlier(now, now, constant(1), constant(2))", 7, ("constant", 1))
        self.assert_given("ifearlier(now, shift(now, -1), constant(1), missing)", 7, None)
        self.assert_given("ifearlier(floor(now), now, constant(1), constant(2))", -9, ("constant", 1), grid=(4, 1))
        self.assert_given("ifearlier(now, floor(now), constant(1), constant(2))", -9, ("constant", 2), grid=(4, 0))

    def test_ifearlier_with_times_that_fail(self):
        for text in ("ifearlier(time(before(d, now)), now, constant(1), constant(2))",
                     "ifearlier(now, time(before(d, now)), constant(1), constant(2))",
                     "ifearlier(time(before(d, now)), time(before(d, now)), constant(1), constant(2))"):
            self.assert_given(text, 7, None)
            self.assert_given(f"else({text}, constant(3))", 7, ("constant", 3))

    def test_where_the_number_comes_from(self):
        table = Table(("a", 1, 5), ("constant", 1, 5))
        self.assert_given("value(before(a, now))", 1, ("a", 1, 5), table)
        self.assert_given("value(before(constant, now))", 1, ("constant", 1, 5), table)
        self.assert_given("constant(5)", 1, ("constant", 5), table)

    def test_all_small_tables(self):
        settings = [Setting(grid=grid) for grid in (None, (1, 0), (3, 1))]
        makers = [Maker(seed, grid=False) for seed in range(40)], [Maker(seed) for seed in range(40)]
        for setting in settings:
            readers, looks = [], []
            for maker in makers[setting.grid is not None]:
                looks.append(maker.looks(2)[-1])
                readers.append(maker.reader(maker.looks(2), 3))
            for rows, asked in small_tables(setting, "ab", 2, 2):
                table = Table(*rows)
                for look, reader in zip(looks, readers):
                    self.assertEqual(find(look, table, asked, grid=setting.grid),
                                     plain_find(look, rows, asked, setting.grid))
                    self.assertEqual(outcome(reader, table, asked, grid=setting.grid),
                                     plain_outcome(reader, rows, asked, setting.grid))
                    self.assertEqual(read(reader, table, asked, grid=setting.grid),
                                     plain_read(reader, rows, asked, setting.grid))

    def test_great_tables(self):
        table = Table(*[("a", 3 * number, number) for number in range(-250, 250)])
        for asked in range(-20, 20):
            self.assert_given("value(before(a, now, 1))", asked,
                              None if asked % 3 == 2 else ("a", asked - asked % 3, asked // 3), table)


class ErrorsTest(RaisingCase):
    def test_no_reader_and_no_look(self):
        for call in (read, outcome):
            for wrong in NOT_READERS:
                self.assert_raised(NotAReader, wrong, call, wrong, TABLE, 0)
                self.assert_raised(NotAReader, wrong, call, wrong, None, None, grid=1)
                self.assert_raised(NotAReader, wrong, call, grid=1, time=None, table=None, reader=wrong)
        for wrong in NOT_LOOKS:
            self.assert_raised(NotALook, wrong, find, wrong, TABLE, 0)
            self.assert_raised(NotALook, wrong, find, wrong, None, None, grid=1)
            self.assert_raised(NotALook, wrong, find, grid=1, time=None, table=None, look=wrong)

    def test_in_order(self):
        gridded = Before("a", Floor(Now()))
        for call, thing in ((read, Value(gridded)), (outcome, Value(gridded)), (find, gridded)):
            for wrong in NOT_TABLES:
                self.assert_raised(NotATable, wrong, call, thing, wrong, 0, grid=(1, 0))
                self.assert_raised(NotATable, wrong, call, thing, wrong, None, grid=1)
                self.assert_raised(NotATable, wrong, call, thing, grid=1, time=None, table=wrong)
            for wrong in NOT_INTEGERS:
                self.assert_raised(InvalidTime, wrong, call, thing, TABLE, wrong, grid=(1, 0))
                self.assert_raised(InvalidTime, wrong, call, thing, TABLE, wrong, grid=1)
                self.assert_raised(InvalidTime, wrong, call, thing, TABLE, wrong)
            for wrong in NOT_GRIDS:
                self.assert_raised(InvalidGrid, wrong, call, thing, TABLE, 0, grid=wrong)
            self.assert_bare(NoGrid, call, thing, TABLE, 0)
            self.assert_bare(NoGrid, call, thing, TABLE, 0, grid=None)

    def test_no_grid_wherever_the_grid_time_is(self):
        for text in ("value(before(a, time(before(b, ceil(now)))))", "else(constant(1), value(before(a, floor(now))))",
                     "ifearlier(now, floor(now), missing, missing)", "ifearlier(ceil(now), now, missing, missing)"):
            for call in (read, outcome):
                self.assert_bare(NoGrid, call, read_reader(text), Table(), 0)
                call(read_reader(text), Table(), 0, grid=(1, 0))

    def test_a_grid_that_is_not_needed(self):
        for grid in (None, (1, 0), (60, 59)):
            for look in SOME_LOOKS:
                if not look.grid_times:
                    self.assertEqual(find(look, TABLE, 3, grid=grid), find(look, TABLE, 3))
            for reader in SOME_READERS:
                self.assertEqual(outcome(reader, TABLE, 3, grid=grid), outcome(reader, TABLE, 3))
        for wrong in NOT_GRIDS:
            self.assert_raised(InvalidGrid, wrong, read, Missing(), TABLE, 0, grid=wrong)
            self.assert_raised(InvalidGrid, wrong, outcome, Missing(), TABLE, 0, grid=wrong)
            self.assert_raised(InvalidGrid, wrong, find, LOOK, TABLE, 0, grid=wrong)

    def test_the_grid_by_name_alone(self):
        for call, thing in ((read, Missing()), (outcome, Missing()), (find, LOOK)):
            self.assertRaises(TypeError, call, thing, TABLE, 0, (1, 0))
            self.assertRaises(TypeError, call, thing, TABLE, 0, None)


class DocumentExampleTest(unittest.TestCase):
    def test_running(self):
        table = Table(("a", 3, 10), ("a", 9, 11), ("b", 8, 20))
        reader = read_reader(
            "else(value(before(a, time(before(b, floor(now))), 5)), "
            "ifearlier(now, time(after(a, now)), constant(0), missing))"
        )
        self.assertEqual(
            [read(reader, table, 12, grid=(4, 0)), outcome(reader, table, 9, grid=(4, 0)),
             outcome(reader, table, 7, grid=(4, 0)), find(read_look("before(a, now, strict)"), table, 9),
             read(read_reader("value(after(b, now, 2))"), table, 5)],
            [10, ("a", 3, 10), ("constant", 0), ("a", 3, 10), None],
        )


if __name__ == "__main__":
    unittest.main()
