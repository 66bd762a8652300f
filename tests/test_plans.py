import unittest

from latestrows.comparing import Example
from latestrows.errors import InvalidColumns, InvalidGrid, InvalidName, NoGrid, NotAPlan, NotASetting, NotATable
from latestrows.plans import Plan, alike_plans, plans_difference
from latestrows.readers import Constant, Missing, Value
from latestrows.settings import Setting
from latestrows.tables import Table
from latestrows.texts import read_reader
from latestrows.times import Before, Now, Shift

from nested import SOME_READERS, Maker, deep
from plain_runs import check_example, plain_read
from raising import RaisingCase
from wrong_parts import NOT_READERS, NOT_SETTINGS, ODD
from wrong_values import NOT_GRIDS, NOT_NAMES, EqualToAll, NoTruth

BID = read_reader("value(before(bid, now, 5))")
REF = read_reader("value(before(ref, now))")
FULL_REF = "value(before(ref, time(before(bid, now, 5))))"
GRIDDED = read_reader("value(before(a, floor(now)))")

NOT_PLANS = ODD + ["trade", ("trade", ("bid", None, BID)), Plan, BID, Setting(), Table()]


def three():
    """A column without a base, one with a base, and one whose base has a base itself."""
    old = read_reader("ifearlier(now, shift(now, 3), value(before(old, shift(now, -1), 9)), missing)")
    return Plan("trade", ("bid", None, BID), ("ref", "bid", REF), ("old", "ref", old))


class MakingTest(RaisingCase):
    def test_what_was_passed(self):
        columns = (("bid", None, BID), ("ref", "bid", REF))
        plan = Plan("trade", *columns)
        self.assertEqual((plan.left, plan.columns, plan.names), ("trade", columns, ("bid", "ref")))
        self.assertIs(plan.columns[0], columns[0])
        self.assertIs(plan.columns[1][2], REF)
        for kept in (plan.columns, plan.names, plan.feeds):
            self.assertIs(type(kept), tuple)

    def test_full_readers(self):
        plan = three()
        self.assertEqual(plan.reader("bid"), BID)
        self.assertEqual(str(plan.reader("ref")), FULL_REF)
        inside = f"time({FULL_REF[6:-1]})"
        old = f"ifearlier({inside}, shift({inside}, 3), value(before(old, shift({inside}, -1), 9)), missing)"
        self.assertEqual(str(plan.reader("old")), old)
        self.assertEqual(plan.reader(name="old"), read_reader(old))
        # Each now is replaced, wherever it stands; a reader without one is as it was.
        both = read_reader("ifearlier(now, floor(shift(now, 3)), constant(2), value(after(a, time(before(b, now)))))")
        plan = Plan("x", ("one", None, BID), ("two", "one", both), ("none", "one", Constant(4)))
        look = "time(before(bid, now, 5))"
        self.assertEqual(str(plan.reader("two")), str(both).replace("now", look))
        self.assertEqual(plan.reader("none"), Constant(4))

    def test_names_that_no_column_has(self):
        plan = three()
        for wrong in NOT_NAMES + ["trade", "bi", "bidd", "Bid", ("bid",), ["bid"], BID]:
            self.assert_raised(InvalidName, wrong, plan.reader, wrong)
            self.assert_raised(InvalidName, wrong, plan.reader, name=wrong)

    def test_feeds(self):
        self.assertEqual(three().feeds, ("bid", "old", "ref", "trade"))
        self.assertEqual(Plan("z", ("c", None, Constant(1))).feeds, ("z",))
        inside = read_reader("value(before(b, time(before(a, now))))")
        self.assertEqual(Plan("a", ("c", None, inside)).feeds, ("a", "b"))
        both = read_reader("ifearlier(time(before(d, now)), now, value(before(c, now)), value(after(d, now)))")
        self.assertEqual(Plan("e", ("c", None, both), ("b", None, both)).feeds, ("c", "d", "e"))

    def test_length_members_and_repr(self):
        for many in range(1, 5):
            plan = Plan("trades", *[(f"c{index}", None, BID) for index in range(many)])
            self.assertEqual(len(plan), many)
            self.assertIs(bool(plan), True)
            self.assertEqual(repr(plan), f"Plan(trades, {many} columns)")
        plan = three()
        for name in ("bid", "ref", "old"):
            self.assertIs(name in plan, True)
        for other in NOT_NAMES + ["trade", "bi", "bids", ("bid",), b"bid", BID, ("bid", None, BID), Plan]:
            self.assertIs(other in plan, False)
        for other in (EqualToAll(), NoTruth(), ["bid"], {"bid"}):
            self.assertIs(other in plan, False)

    def test_equality(self):
        self.assertIs(three() == three(), True)
        self.assertIs(three() != three(), False)
        columns = three().columns
        others = [
            Plan("trades", *columns), Plan("trade", *columns[:2]), Plan("trade", *columns[:2], columns[2][:2] + (REF,)),
            Plan("trade", ("bid", None, BID), ("old", "bid", columns[2][2]), ("ref", "bid", REF)),
            Plan("trade", columns[0], ("ref", None, REF), columns[2]),
            Plan("trade", columns[0], ("ref", None, read_reader(FULL_REF)), columns[2]),
        ]
        for other in others + [None, True, "trade", columns, ("trade", *columns), EqualToAll.__eq__]:
            self.assertIs(three() == other, False)
            self.assertIs(three() != other, True)
        self.assertEqual(Plan("x", ("a", None, read_reader(str(BID)))), Plan("x", ("a", None, BID)))

    def test_no_left_feed(self):
        for wrong in NOT_NAMES:
            self.assert_raised(InvalidName, wrong, Plan, wrong, ("bid", None, BID))
            self.assert_raised(InvalidName, wrong, Plan, wrong)
            self.assert_raised(InvalidName, wrong, Plan, wrong, 5, None)

    def test_how_many_columns(self):
        self.assert_raised(InvalidColumns, None, Plan, "x")
        columns = [(f"c{index}", None, BID) for index in range(5)]
        self.assert_raised(InvalidColumns, None, Plan, "x", *columns)
        self.assert_raised(InvalidColumns, None, Plan, "x", None, *columns)
        self.assert_raised(InvalidColumns, None, Plan, "x", 1, 2, 3, 4, 5)
        self.assertEqual(len(Plan("x", *columns[:4])), 4)


class ColumnErrorsTest(RaisingCase):
    def assert_index(self, index, *columns):
        self.assert_raised(InvalidColumns, index, Plan, "x", *columns)

    def test_no_tuple_of_three(self):
        good = ("a", None, BID)
        for wrong in ODD + [["b", None, BID], ("b",), ("b", None), ("b", None, BID, BID), "b", ("b", BID)]:
            self.assert_index(0, wrong)
            self.assert_index(1, good, wrong)
            self.assert_index(1, good, wrong, wrong)
            self.assert_index(2, good, ("b", "a", BID), wrong)

    def test_names(self):
        for wrong in NOT_NAMES:
            self.assert_index(0, (wrong, None, BID))
            self.assert_index(1, ("a", None, BID), (wrong, None, BID))
        self.assert_index(1, ("a", None, BID), ("a", None, REF))
        self.assert_index(2, ("a", None, BID), ("b", None, BID), ("a", "b", BID), ("b", None, BID))
        self.assert_index(1, ("a", None, BID), ("a", None, BID), 5)

    def test_bases(self):
        for wrong in NOT_NAMES:
            if wrong is not None:
                self.assert_index(0, ("a", wrong, BID))
                self.assert_index(1, ("a", None, BID), ("b", wrong, BID))
        # Not there, the column itself, and one that comes later.
        self.assert_index(0, ("a", "x", BID))
        self.assert_index(1, ("a", None, BID), ("b", "c", BID))
        self.assert_index(0, ("a", "a", BID))
        self.assert_index(1, ("a", None, BID), ("b", "b", BID))
        self.assert_index(0, ("a", "b", BID), ("b", None, BID))
        # Of a column whose reader is no Value.
        for reader in SOME_READERS:
            if not isinstance(reader, Value):
                self.assert_index(1, ("a", None, reader), ("b", "a", BID))
                self.assert_index(2, ("c", None, BID), ("a", "c", reader), ("b", "a", BID))

    def test_readers(self):
        for wrong in NOT_READERS:
            self.assert_index(0, ("a", None, wrong))
            self.assert_index(1, ("a", None, BID), ("b", "a", wrong))

    def test_depth(self):
        for depth, by in ((7, 1), (8, 1), (6, 2), (5, 3), (6, 3), (4, 5)):
            base = Value(Before("a", deep(depth)))
            column = ("b", "a", Value(Before("c", deep(by))))
            if depth + by <= 8:
                # time(L) is one deeper than L, and stands in the place of the innermost now.
                looks = Plan("x", ("a", None, base), column).reader("b").looks
                self.assertEqual(max(look.depth for look in looks), depth + by)
            else:
                self.assert_index(1, ("a", None, base), column)
        # The time of the base itself is too deep, though it would stand nowhere.
        self.assert_index(1, ("a", None, Value(Before("a", deep(8)))), ("b", "a", Constant(1)))
        self.assert_index(1, ("a", None, Value(Before("a", deep(8)))), ("b", "a", Missing()))
        Plan("x", ("a", None, Value(Before("a", deep(7)))), ("b", "a", Constant(1)))
        # A look at deep(3) of a time that is 5 deep is 7 deep.
        chain = [("a", None, Value(Before("a", deep(4)))), ("b", "a", Value(Before("b", deep(3)))),
                 ("c", "b", Value(Before("c", Now())))]
        self.assertEqual(max(look.depth for look in Plan("x", *chain).reader("c").looks), 8)
        self.assert_index(3, *chain, ("d", "c", BID))
        self.assert_index(2, *chain[:2], ("c", "b", Value(Before("c", Shift(Now(), 1)))))

    def test_looks(self):
        two = read_reader("value(before(a, time(before(b, now))))")
        one = read_reader("value(before(c, now))")
        Plan("x", ("a", None, two), ("b", "a", one))
        self.assert_index(2, ("a", None, two), ("b", "a", one), ("c", "b", one))
        self.assert_index(1, ("a", None, two), ("b", "a", two))
        both = read_reader("else(value(before(c, now)), value(after(c, now)))")
        self.assert_index(1, ("a", None, two), ("b", "a", both))
        # Constants look nowhere, so that the looks of the base do not count.
        self.assertEqual(Plan("x", ("a", None, two), ("b", "a", Constant(1))).reader("b").looks, ())

    def test_grid_times(self):
        two = read_reader("value(before(a, floor(time(before(b, ceil(now))))))")
        one = read_reader("value(before(c, floor(now)))")
        Plan("x", ("a", None, two), ("b", "a", REF))
        Plan("x", ("a", None, GRIDDED), ("b", "a", one))
        self.assert_index(1, ("a", None, two), ("b", "a", one))
        self.assert_index(2, ("a", None, GRIDDED), ("b", "a", one), ("c", "b", one))

    def test_the_least_index(self):
        self.assert_index(0, 5, 5)
        self.assert_index(1, ("a", None, BID), ("b", "c", BID), 5)
        self.assert_index(3, ("a", None, BID), ("b", "a", REF), ("c", None, BID), ("c", None, BID))


class RunTest(RaisingCase):
    TABLE = Table(("trade", 10, 1), ("trade", 30, 2), ("bid", 7, 100), ("ref", 8, 50), ("ref", 2, 49), ("old", 1, 9))

    def test_rows(self):
        self.assertEqual(list(three().run(self.TABLE)), [(10, 1, 100, 49, 9), (30, 2, None, None, None)])
        self.assertEqual(list(three().run(table=self.TABLE, grid=None)), list(three().run(self.TABLE, grid=(7, 3))))
        self.assertEqual(list(three().run(Table())), [])
        self.assertEqual(list(Plan("none", ("bid", None, BID)).run(self.TABLE)), [])
        self.assertEqual(list(Plan("trade", ("c", None, Constant(5))).run(self.TABLE)), [(10, 1, 5), (30, 2, 5)])

    def test_ascending_and_of_the_left_feed_alone(self):
        rows = [("x", time, -time) for time in (5, -3, 10 ** 20, 0, -(10 ** 20))] + [("a", 1, 2), ("y", 0, 1)]
        plan = Plan("x", ("c", None, read_reader("value(after(a, now, 1))")))
        found = list(plan.run(Table(*rows)))
        self.assertEqual(found, [(-(10 ** 20), 10 ** 20, None), (-3, 3, None), (0, 0, 2), (5, -5, None),
                                 (10 ** 20, -(10 ** 20), None)])
        self.assertEqual([type(row) for row in found], [tuple] * 5)

    def test_at_random(self):
        for seed in range(60):
            maker = Maker(seed, feeds=("a", "b", "x"))
            looks = maker.looks(2)
            readers = [maker.reader(looks, seed % 3), maker.reader(maker.looks(3), 2)]
            plan = Plan("x", ("one", None, readers[0]), ("two", None, readers[1]))
            places = {(maker.random.choice("abx"), maker.random.randrange(-9, 9)) for _ in range(12)}
            rows = [(feed, time, number) for number, (feed, time) in enumerate(sorted(places))]
            grid = (seed % 5 + 1, 0)
            expected = [(time, value, *[plain_read(reader, rows, time, grid) for reader in readers])
                        for feed, time, value in sorted(rows) if feed == "x"]
            self.assertEqual(list(plan.run(Table(*rows), grid=grid)), expected)

    def assert_raised_at_first(self, kind, field, plan, table, grid):
        for items in (plan.run(table, grid=grid), plan.run(grid=grid, table=table)):
            self.assert_raised(kind, field, next, items)

    def test_errors_at_the_first_item(self):
        plain, gridded = three(), Plan("trade", ("bid", None, BID), ("c", "bid", GRIDDED))
        for plan in (plain, gridded):
            for wrong in ODD + [(("trade", 1, 2),), Table, three()]:
                self.assert_raised_at_first(NotATable, wrong, plan, wrong, None)
                self.assert_raised_at_first(NotATable, wrong, plan, wrong, 5)
            for wrong in NOT_GRIDS:
                self.assert_raised_at_first(InvalidGrid, wrong, plan, self.TABLE, wrong)
                self.assert_raised_at_first(InvalidGrid, wrong, plan, Table(), wrong)
        for table in (self.TABLE, Table()):
            self.assert_bare(NoGrid, next, gridded.run(table))
            self.assert_bare(NoGrid, next, gridded.run(table, grid=None))
        self.assertEqual(len(list(gridded.run(self.TABLE, grid=(5, 0)))), 2)

    def test_items_one_by_one(self):
        items = three().run(self.TABLE)
        self.assertEqual(next(items)[0], 10)
        self.assertEqual(next(items)[0], 30)
        self.assertRaises(StopIteration, next, items)


class AlikePlansTest(RaisingCase):
    def assert_alike(self, plan, second, setting=Setting()):
        for pair in ((plan, second), (second, plan)):
            self.assertIs(alike_plans(*pair, setting), True)
            self.assertIs(plans_difference(*pair, setting), None)

    def assert_unlike(self, plan, second, expected, setting=Setting()):
        for pair in ((plan, second), (second, plan)):
            self.assertIs(alike_plans(*pair, setting), False)
            self.assertEqual(plans_difference(*pair, setting), expected)

    def assert_shown(self, plan, second, name, setting=Setting()):
        for pair in ((plan, second), (second, plan)):
            self.assertIs(alike_plans(*pair, setting), False)
            found = plans_difference(*pair, setting)
            self.assertIs(type(found), tuple)
            self.assertEqual(len(found), 2)
            self.assertEqual(found[0], name)
            self.assertIs(type(found[1]), Example)
            readers = [one.reader(name) for one in pair]
            asked = Setting(grid=setting.grid, apart=setting.apart, on_grid=setting.on_grid, at_rows=plan.left)
            given = check_example(self, found[1], readers, asked)
            self.assertNotEqual(*[None if row is None else row[-1] for row in given])
            again = plans_difference(*pair, setting)
            self.assertEqual((found[1].table, found[1].time), (again[1].table, again[1].time))

    def test_another_order(self):
        columns = [("c", None, BID), ("a", None, REF), ("b", None, Constant(1))]
        for order in ((0, 1, 2), (2, 1, 0), (1, 2, 0)):
            self.assert_alike(Plan("x", *columns), Plan("x", *[columns[index] for index in order]))

    def test_written_out_and_by_a_base(self):
        based = Plan("trade", ("bid", None, BID), ("ref", "bid", REF))
        self.assert_alike(based, Plan("trade", ("ref", None, read_reader(FULL_REF)), ("bid", None, BID)))
        self.assert_shown(based, Plan("trade", ("bid", None, BID), ("ref", None, REF)), "ref")

    def test_alike_only_at_the_rows_of_the_left_feed(self):
        own = read_reader("value(before(x, now))")
        near = read_reader("value(before(x, now, 3))")
        for setting in (Setting(), Setting(at_rows="y"), Setting(at_rows="x")):
            self.assert_alike(Plan("x", ("c", None, own)), Plan("x", ("c", None, near)), setting)
            self.assert_shown(Plan("y", ("c", None, own)), Plan("y", ("c", None, near)), "c", setting)

    def test_settings(self):
        floored, plain = read_reader("value(before(x, floor(now)))"), read_reader("value(before(x, now))")
        pair = Plan("x", ("c", None, floored)), Plan("x", ("c", None, plain))
        self.assert_alike(*pair, Setting(grid=(5, 0), on_grid=("x",)))
        self.assert_alike(*pair, Setting(grid=(1, 0)))
        self.assert_shown(*pair, "c", Setting(grid=(5, 0)))
        self.assert_shown(*pair, "c", Setting(grid=(5, 0), on_grid=("y",), at_rows="y"))
        strict = read_reader("value(before(x, now, 4, strict))")
        pair = Plan("x", ("c", None, strict)), Plan("x", ("c", None, Missing()))
        self.assert_alike(*pair, Setting(apart=(("x", 5),)))
        self.assert_shown(*pair, "c", Setting(apart=(("x", 4),)))

    def test_left(self):
        column = ("c", None, BID)
        self.assert_unlike(Plan("x", column), Plan("y", column), ("left",))
        self.assert_unlike(Plan("x", column), Plan("y", ("d", None, REF)), ("left",))

    def test_names(self):
        column = ("c", None, BID)
        self.assert_unlike(Plan("x", column), Plan("x", ("d", None, BID)), ("names",))
        self.assert_unlike(Plan("x", column), Plan("x", column, ("d", None, BID)), ("names",))
        self.assert_unlike(Plan("x", column), Plan("x", ("d", None, REF), ("e", None, REF)), ("names",))

    def test_the_least_name(self):
        one, two = Constant(1), Constant(2)
        plan = Plan("x", ("d", None, one), ("b", None, one), ("a", None, one), ("c", None, one))
        self.assert_shown(plan, Plan("x", ("a", None, one), ("b", None, two), ("c", None, two), ("d", None, two)), "b")
        self.assert_shown(plan, Plan("x", ("d", None, two), ("c", None, two), ("b", None, one), ("a", None, one)), "c")
        self.assert_shown(plan, Plan("x", ("d", None, two), ("c", None, two), ("b", None, one), ("a", None, two)), "a")

    def test_by_name(self):
        plan = three()
        self.assertIs(alike_plans(setting=Setting(), second=plan, plan=plan), True)
        self.assertIs(plans_difference(setting=Setting(), second=plan, plan=plan), None)

    def test_errors(self):
        plain, gridded = three(), Plan("trade", ("bid", None, BID), ("c", "bid", GRIDDED))
        for call in (alike_plans, plans_difference):
            for wrong in NOT_PLANS:
                self.assert_raised(NotAPlan, wrong, call, wrong, plain, Setting())
                self.assert_raised(NotAPlan, wrong, call, wrong, None, None)
                self.assert_raised(NotAPlan, wrong, call, plain, wrong, Setting())
                self.assert_raised(NotAPlan, wrong, call, gridded, wrong, None)
            for wrong in NOT_SETTINGS:
                self.assert_raised(NotASetting, wrong, call, plain, gridded, wrong)
            other = Plan("y", ("c", None, BID))
            for pair in ((plain, gridded), (gridded, plain), (gridded, gridded), (other, gridded)):
                self.assert_bare(NoGrid, call, *pair, Setting(apart=(("a", 2),), at_rows="a"))

    def test_the_example_of_the_document(self):
        bid = read_reader("value(before(bid, now, 5))")
        plan = Plan("trade", ("bid", None, bid), ("ref", "bid", read_reader("value(before(ref, now))")))
        other = Plan("trade", ("ref", None, read_reader("value(before(ref, time(before(bid, now, 5))))")),
                     ("bid", None, bid))
        table = Table(("trade", 10, 1), ("trade", 30, 2), ("bid", 7, 100), ("ref", 8, 50), ("ref", 2, 49))
        self.assertEqual(
            [list(plan.run(table)), alike_plans(plan, other, Setting()),
             plans_difference(plan, Plan("bid", ("bid", None, bid)), Setting()), str(plan.reader("ref")), plan.feeds,
             repr(plan)],
            [[(10, 1, 100, 49), (30, 2, None, None)], True, ("left",),
             "value(before(ref, time(before(bid, now, 5))))", ("bid", "ref", "trade"), "Plan(trade, 2 columns)"],
        )


if __name__ == "__main__":
    unittest.main()
