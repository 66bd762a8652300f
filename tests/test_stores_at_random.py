"""Stores after many drawn deeds: the answers are those of the plan on the present tables."""

import random
import unittest

from latestrows.changes import change_range
from latestrows.errors import MissingRow, NeverChanged, NotKept
from latestrows.plans import Plan
from latestrows.settings import Setting
from latestrows.stores import Store, what_if
from latestrows.tables import Table
from latestrows.texts import read_reader

from plain_runs import plain_keeps, plain_read

GROUPS = ("g", "h", "k")
FEEDS = ("a", "b", "x", "zz")

LATER = "ifearlier(time(after(b, now)), shift(now, 5), constant(1), value(before(b, now, 3)))"

PLANS = [
    Plan("x", ("one", None, read_reader("value(before(a, now, 4))")),
         ("two", "one", read_reader("else(value(after(b, now, 3, strict)), constant(0))"))),
    Plan("x", ("one", None, read_reader("else(value(before(x, now, 6, strict)), value(before(a, now)))")),
         ("two", None, read_reader(LATER))),
    Plan("x", ("far", None, read_reader("value(before(a, shift(now, -9), 2))")),
         ("next", "far", read_reader("value(after(x, now))")),
         ("last", "next", read_reader("value(before(b, now, 1))"))),
]
GRIDDED = [
    Plan("x", ("one", None, read_reader("value(before(a, floor(now), 4))")),
         ("two", "one", read_reader("value(after(b, ceil(now), 3))"))),
    Plan("x", ("one", None, read_reader("else(value(after(a, ceil(now))), value(before(x, floor(now), strict)))"))),
]
SETTINGS = ["any", "apart a 3; apart x 2", "at b", "apart b 4; at x"]
GRID_SETTINGS = ["grid 3 1", "grid 4 0; on a", "grid 2 1; apart a 3; on x; at x", "grid 5 0; apart x 2; on b; at a"]


def draw(drawn):
    group, feed, time = drawn.choice(GROUPS), drawn.choice(FEEDS), drawn.randrange(-8, 9)
    if drawn.random() < 0.3:
        return ("take", group, feed, time)
    return ("put", group, feed, time, drawn.randrange(5))


class Model:
    """The tables as dicts, with no regard to what an answer depends on."""

    def __init__(self, plan, setting, tables=()):
        self.plan = plan
        self.setting = setting
        self.tables = {group: dict(rows) for group, rows in dict(tables).items()}

    def copied(self):
        return Model(self.plan, self.setting, self.tables)

    def rows(self, group):
        return sorted((feed, time, value) for (feed, time), value in self.tables.get(group, {}).items())

    def do(self, deed):
        rows = self.tables.setdefault(deed[1], {})
        if deed[0] == "take":
            if deed[2:4] not in rows:
                raise MissingRow(deed[2:4])
            del rows[deed[2:4]]
        else:
            rows[deed[2:4]] = deed[4]
            if not plain_keeps(self.setting, self.rows(deed[1])):
                raise NotKept(Table(*self.rows(deed[1])))

    def answers(self, group):
        rows, grid = self.rows(group), self.setting.grid
        return tuple((time, value, *[plain_read(self.plan.reader(name), rows, time, grid) for name in self.plan.names])
                     for feed, time, value in rows if feed == self.plan.left)


class StoresAtRandomTest(unittest.TestCase):
    def assert_same(self, store, model):
        groups = tuple(group for group in GROUPS if model.rows(group))
        self.assertEqual((store.groups, len(store)), (groups, sum(len(model.rows(group)) for group in GROUPS)))
        for group in GROUPS:
            self.assertEqual(store.table_of(group).rows, tuple(model.rows(group)))
            self.assertEqual(store.answers(group), model.answers(group))

    def ranges(self, plan, setting):
        found = {}
        for feed in FEEDS:
            found[feed] = []
            for name in plan.names:
                try:
                    found[feed].append(change_range(plan.reader(name), feed, setting.with_rows_of(plan.left)))
                except NeverChanged:
                    pass
        return found

    def assert_worked(self, store, before, after, deed, ranges):
        """Only times in reach of the deed, and each that has become another joined row."""
        _, group, feed, late = deed[:4]
        old, new = {row[0]: row for row in before.answers(group)}, {row[0]: row for row in after.answers(group)}
        self.assertEqual(store.worked, tuple(sorted(store.worked)))
        for time in store.worked:
            self.assertIn(time, new)
            near = any((least is None or least <= late - time) and (greatest is None or late - time <= greatest)
                       for least, greatest in ranges[feed])
            self.assertTrue(near or (feed == "x" and time == late))
        self.assertEqual([time for time in new if new[time] != old.get(time) and time not in store.worked], [])

    def one_by_one(self, plan, setting, drawn):
        store, models, deeds = Store(plan, setting), [Model(plan, setting)], []
        ranges = self.ranges(plan, setting)
        for _ in range(60):
            if deeds and drawn.random() < 0.2:
                store.undo()
                self.assert_worked(store, models[-1], models[-2], deeds[-1], ranges)
                models, deeds = models[:-1], deeds[:-1]
            else:
                deed, model = draw(drawn), models[-1].copied()
                self.do(store, model, deed, models, deeds, ranges)
            self.assertEqual(store.history, tuple(deeds))
            self.assert_same(store, models[-1])
        self.taken_back_and_done_again(store, models, deeds)

    def do(self, store, model, deed, models, deeds, ranges):
        worked = store.worked
        try:
            model.do(deed)
        except (MissingRow, NotKept) as error:
            with self.assertRaises(type(error)) as caught:
                store.do(deed)
            self.assertEqual(caught.exception.value, error.value)
            self.assertEqual(store.worked, worked)
            return
        store.do(deed)
        self.assert_worked(store, models[-1], model, deed, ranges)
        models.append(model)
        deeds.append(deed)

    def taken_back_and_done_again(self, store, models, deeds):
        for model in reversed(models[:-1]):
            store.undo()
            self.assert_same(store, model)
        self.assertEqual(store.history, ())
        store.do_all(*deeds)
        self.assert_same(store, models[-1])
        self.assertEqual(store.history, tuple(deeds))

    def at_once(self, plan, setting, drawn):
        store, model, done = Store(plan, setting), Model(plan, setting), ()
        for _ in range(25):
            deeds = [draw(drawn) for _ in range(drawn.randrange(4))]
            later, worked = model.copied(), store.worked
            try:
                for deed in deeds:
                    later.do(deed)
            except (MissingRow, NotKept) as error:
                for call, passed in ((store.do_all, ()), (what_if, (store, "g"))):
                    with self.assertRaises(type(error)):
                        call(*passed, *deeds)
                    self.assertEqual((store.history, store.worked), (done, worked))
            else:
                for group in GROUPS:
                    self.assertEqual(what_if(store, group, *deeds), later.answers(group))
                self.assert_same(store, model)
                store.do_all(*deeds)
                model, done = later, done + tuple(deeds)
            self.assertEqual(store.history, done)
            self.assert_same(store, model)

    def test_without_a_grid(self):
        for number, plan in enumerate(PLANS):
            for text in SETTINGS:
                with self.subTest(plan=number, setting=text):
                    drawn = random.Random(f"{number} {text}")
                    self.one_by_one(plan, Setting.read(text), drawn)
                    self.at_once(plan, Setting.read(text), drawn)

    def test_with_a_grid(self):
        for number, plan in enumerate(GRIDDED + PLANS[:2]):
            for text in GRID_SETTINGS:
                with self.subTest(plan=number, setting=text):
                    drawn = random.Random(f"{number} {text}")
                    self.one_by_one(plan, Setting.read(text), drawn)
                    self.at_once(plan, Setting.read(text), drawn)


if __name__ == "__main__":
    unittest.main()
