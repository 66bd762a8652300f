import itertools
import unittest

from latestrows.errors import (
    InvalidApart, InvalidFeeds, InvalidGrid, InvalidName, InvalidText, InvalidTime, NotATable,
)
from latestrows.settings import Setting
from latestrows.tables import Table

from plain_runs import plain_asks, plain_keeps
from raising import RaisingCase
from wrong_values import NAMES, NOT_GRIDS, NOT_INTEGERS, NOT_NAMES, EqualToAll, NoTruth

TEXTS = [
    "any",
    "grid 1 0",
    "grid 5 1",
    "grid 60 59",
    "apart a 1",
    "apart a 1000000000",
    "apart a 3; apart b 7",
    "at a",
    "at any",
    "apart on 3; at grid",
    "grid 5 1; on b",
    "grid 5 1; on a; on b",
    "grid 5 1; apart a 3; apart b 7; on b; at a",
    "grid 2 0; apart a10 3; apart a9 2; on a10; on a9; at abcdefgh",
]

NOT_TUPLES = [None, True, 0, 5, "", "ab", [], [("a", 1)], {}, {"a": 1}, {"a"}, object(), EqualToAll(), NoTruth(),
              range(0)]
NOT_PAIRS = [None, True, 0, "", "a1", "ab", [], ["a", 1], (), ("a",), ("a", 1, 1), (1, "a"), ("a", 0), ("a", -1),
             ("a", 1000000001), ("a", None), ("a", "1"), ("a", 1.0), {"a": 1}, object(), EqualToAll()]
NOT_PAIRS += [(name, 1) for name in NOT_NAMES] + [("a", number) for number in NOT_INTEGERS]


class MakingTest(unittest.TestCase):
    def test_nothing_known(self):
        setting = Setting()
        self.assertEqual((setting.grid, setting.apart, setting.on_grid, setting.at_rows), (None, (), (), None))
        self.assertEqual(str(setting), "any")
        self.assertEqual(repr(setting), "Setting(any)")
        self.assertEqual(Setting(grid=None, apart=(), on_grid=(), at_rows=None), setting)

    def test_each_part(self):
        setting = Setting(grid=(5, 1), apart=(("b", 7), ("a", 3)), on_grid=("b", "a"), at_rows="c")
        self.assertEqual(setting.grid, (5, 1))
        self.assertEqual(setting.apart, (("a", 3), ("b", 7)))
        self.assertEqual(setting.on_grid, ("a", "b"))
        self.assertEqual(setting.at_rows, "c")
        self.assertEqual(str(setting), "grid 5 1; apart a 3; apart b 7; on a; on b; at c")
        self.assertEqual(repr(setting), "Setting(grid 5 1; apart a 3; apart b 7; on a; on b; at c)")

    def test_any_order_of_elements(self):
        apart = (("a", 3), ("a10", 2), ("a9", 9), ("b", 1))
        feeds = ("a", "a10", "a9", "b")
        for order, others in zip(itertools.permutations(apart), itertools.permutations(feeds)):
            setting = Setting(grid=(2, 1), apart=order, on_grid=others)
            self.assertEqual((setting.apart, setting.on_grid), (apart, feeds))
            self.assertEqual(setting, Setting(grid=(2, 1), apart=apart, on_grid=feeds))

    def test_all_grids(self):
        for step in range(1, 61):
            for offset in range(step):
                setting = Setting(grid=(step, offset))
                self.assertEqual(setting.grid, (step, offset))
                self.assertEqual(str(setting), f"grid {step} {offset}")

    def test_by_name_alone(self):
        self.assertRaises(TypeError, Setting, (5, 1))
        self.assertRaises(TypeError, Setting, None)

    def test_names_and_distances(self):
        for name in NAMES:
            for distance in (1, 2, 1000000000):
                setting = Setting(apart=((name, distance),), at_rows=name)
                self.assertEqual(str(setting), f"apart {name} {distance}; at {name}")

    def test_truth_and_equality(self):
        settings = [Setting.read(text) for text in TEXTS]
        for setting, text in zip(settings, TEXTS):
            self.assertIs(bool(setting), True)
            for other, other_text in zip(settings, TEXTS):
                self.assertIs(setting == other, text == other_text)
                self.assertIs(setting != other, text != other_text)
            for other in [text, None, True, (), Setting, EqualToAll(), Table()]:
                self.assertIs(setting == other, False)
                self.assertIs(setting != other, True)


class MakingErrorsTest(RaisingCase):
    def test_no_grid(self):
        for wrong in NOT_GRIDS:
            self.assert_raised(InvalidGrid, wrong, Setting, grid=wrong)
            self.assert_raised(InvalidGrid, wrong, Setting, at_rows="A", on_grid=None, apart=None, grid=wrong)

    def test_apart(self):
        for wrong in NOT_TUPLES:
            self.assert_raised(InvalidApart, None, Setting, apart=wrong)
            self.assert_raised(InvalidApart, None, Setting, apart=wrong, on_grid=None, at_rows="A")
        good = [("a", 1), ("b", 1), ("c", 1)]
        for wrong in NOT_PAIRS + [good[0]]:
            for index in (1, 2, 3):
                elements = tuple(good[:index] + [wrong] + good[index:])
                self.assert_raised(InvalidApart, index, Setting, apart=elements)
        for wrong in NOT_PAIRS:
            self.assert_raised(InvalidApart, 0, Setting, apart=(wrong, *good, good[0]), on_grid=None)
        self.assert_raised(InvalidApart, 1, Setting, apart=(("a", 1), ("a", 2)))
        self.assert_raised(InvalidApart, 2, Setting, apart=(("a", 1), ("b", 1), ("a", 1), ("A", 1), None))

    def test_on_grid(self):
        for wrong in NOT_TUPLES:
            self.assert_raised(InvalidFeeds, None, Setting, grid=(5, 1), on_grid=wrong)
            self.assert_raised(InvalidFeeds, None, Setting, on_grid=wrong, at_rows="A")
        for grid in (None, (5, 1)):
            for wrong in NOT_NAMES + ["a"]:
                for index in (1, 2, 3):
                    feeds = ["a", "b", "c"]
                    elements = tuple(feeds[:index] + [wrong] + feeds[index:])
                    self.assert_raised(InvalidFeeds, index, Setting, grid=grid, on_grid=elements)
            self.assert_raised(InvalidFeeds, 0, Setting, grid=grid, on_grid=("A", "b", "b"))
            self.assert_raised(InvalidFeeds, 1, Setting, grid=grid, on_grid=("a", "a"), at_rows="A")

    def test_feeds_on_the_grid_without_a_grid(self):
        self.assert_raised(InvalidFeeds, None, Setting, on_grid=("a",))
        self.assert_raised(InvalidFeeds, None, Setting, on_grid=("a", "b"), at_rows="A")
        self.assertEqual(Setting(on_grid=()), Setting())

    def test_at_rows(self):
        for wrong in NOT_NAMES:
            if wrong is not None:
                self.assert_raised(InvalidName, wrong, Setting, at_rows=wrong)


class AskingSettingsTest(RaisingCase):
    def test_distance(self):
        setting = Setting(apart=(("b", 7), ("a", 3)))
        self.assertEqual([setting.distance(feed) for feed in ("a", "b", "c")], [3, 7, 1])
        self.assertEqual(Setting().distance(feed="a"), 1)
        for wrong in NOT_NAMES:
            self.assert_raised(InvalidName, wrong, setting.distance, wrong)

    def test_with_rows_of(self):
        for text in TEXTS:
            setting = Setting.read(text)
            changed = setting.with_rows_of("z")
            self.assertEqual(changed.at_rows, "z")
            self.assertEqual((changed.grid, changed.apart, changed.on_grid),
                             (setting.grid, setting.apart, setting.on_grid))
            self.assertEqual(str(setting), text)
            for wrong in NOT_NAMES:
                self.assert_raised(InvalidName, wrong, setting.with_rows_of, wrong)
        self.assertEqual(str(Setting().with_rows_of(feed="a")), "at a")

    def test_keeps_distances(self):
        setting = Setting(apart=(("a", 3),))
        for gap in range(1, 8):
            for start in (-10, -2, 0, 5):
                table = Table(("a", start, 1), ("b", start + 1, 1), ("a", start + gap, 1))
                self.assertIs(setting.keeps(table), gap >= 3)
                self.assertIs(setting.keeps(table.with_row("b", start, 1)), gap >= 3)
                self.assertIs(setting.keeps(table.with_row("a", start + gap + 2, 1)), False)
        self.assertIs(setting.keeps(Table()), True)
        self.assertIs(Setting(apart=(("a", 1),)).keeps(Table(("a", 0, 1), ("a", 1, 1))), True)

    def test_keeps_the_grid(self):
        setting = Setting(grid=(5, 1), on_grid=("a",))
        for time in range(-20, 20):
            self.assertIs(setting.keeps(Table(("a", time, 0))), time in (-19, -14, -9, -4, 1, 6, 11, 16))
            self.assertIs(setting.keeps(Table(("b", time, 0))), True)
        self.assertIs(setting.keeps(Table(("a", 1, 0), ("a", 6, 0), ("a", 8, 0))), False)
        self.assertIs(Setting(grid=(1, 0), on_grid=("a",)).keeps(Table(("a", -7, 0))), True)

    def test_keeps_many(self):
        rows = [(feed, time, 0) for feed in "ab" for time in range(-4, 5)]
        settings = [Setting.read(text) for text in TEXTS]
        for chosen in itertools.combinations(rows, 3):
            table = Table(*chosen)
            for setting in settings:
                self.assertIs(setting.keeps(table), plain_keeps(setting, chosen))

    def test_asks(self):
        table = Table(("a", 2, 1), ("a", 3, 1), ("b", -4, 1))
        for time in range(-6, 6):
            self.assertIs(Setting().asks(table, time), True)
            for feed in ("a", "b", "c"):
                setting = Setting(at_rows=feed)
                self.assertIs(setting.asks(table, time), plain_asks(setting, table.rows, time))
                self.assertIs(setting.asks(time=time, table=table), (feed, time) in [("a", 2), ("a", 3), ("b", -4)])
        far = Setting(at_rows="a", apart=(("a", 5),), grid=(2, 1), on_grid=("a", "b"))
        self.assertIs(far.keeps(table), False)
        self.assertEqual([far.asks(table, time) for time in (2, 3, 4)], [True, True, False])

    def test_errors(self):
        for text in TEXTS:
            setting = Setting.read(text)
            for wrong in [None, True, 0, "", (), (("a", 1, 2),), [], Table, setting, object(), EqualToAll(), NoTruth()]:
                self.assert_raised(NotATable, wrong, setting.keeps, wrong)
                self.assert_raised(NotATable, wrong, setting.asks, wrong, 0)
                self.assert_raised(NotATable, wrong, setting.asks, time=None, table=wrong)
            for wrong in NOT_INTEGERS:
                self.assert_raised(InvalidTime, wrong, setting.asks, Table(), wrong)


class ReadTest(RaisingCase):
    def test_texts(self):
        for text in TEXTS:
            setting = Setting.read(text)
            self.assertEqual(str(setting), text)
            self.assertEqual(Setting.read(text=text), setting)
            self.assertIs(type(setting), Setting)
        self.assertEqual(Setting().read("at a"), Setting(at_rows="a"))

    def test_parts_in_all_orders(self):
        parts = ["grid 5 1", "apart a 3", "apart b 7", "on a", "on b", "at c"]
        for many in range(1, 5):
            for chosen in itertools.permutations(parts, many):
                text = "; ".join(chosen)
                in_order = list(chosen) == [part for part in parts if part in chosen]
                on_without_grid = "grid 5 1" not in chosen and ("on a" in chosen or "on b" in chosen)
                if in_order and not on_without_grid:
                    self.assertEqual(str(Setting.read(text)), text)
                else:
                    self.assert_raised(InvalidText, text, Setting.read, text)

    def test_parts_twice(self):
        for text in ["grid 5 1; grid 5 1", "apart a 3; apart a 3", "apart a 3; apart a 4", "grid 5 1; on a; on a",
                     "at a; at a", "at a; at b", "any; any", "grid 5 1; grid 6 1"]:
            self.assert_raised(InvalidText, text, Setting.read, text)

    def test_other_texts(self):
        wrong = [
            "", " ", "any ", " any", "any\n", "Any", "ANY", "any;", "any; ", "; any", "any; at a", "at a; any", "none",
            "grid", "grid 5", "grid 5 1 0", "grid 0 0", "grid 61 0", "grid 5 5", "grid 5 -1", "grid -5 1", "grid +5 1",
            "grid 05 1", "grid 5 01", "grid 5 -0", "grid  5 1", "grid 5  1", "grid 5 1 ", " grid 5 1", "grid 5 1\n",
            "grid 5,1", "grid (5, 1)", "grid None", "Grid 5 1", "grid a b", "grid 5 1;", "grid 5 1; ", "grid 1 1",
            "apart", "apart a", "apart 3", "apart a 0", "apart a -1", "apart a 1000000001", "apart a 03", "apart A 3",
            "apart abcdefghi 3", "apart 1a 3", "apart a b", "apart a 3 4", "apart  a 3", "apart a  3", "apart a, 3",
            "apart b 3; apart a 3", "apart a 3;apart b 3", "apart a 3 ; apart b 3", "apart a 3;  apart b 3",
            "apart a 3, apart b 3", "apart a9 3; apart a10 3", "apart a 3\napart b 3", "apart a True",
            "on a", "on a; on b", "grid 5 1; on", "grid 5 1; on a b", "grid 5 1; on A", "grid 5 1; on b; on a",
            "grid 5 1; on 5", "grid 5 1; at b; on a", "grid 5 1; on a; apart a 3", "grid 5 1 on a",
            "at", "at A", "at a b", "at ", "at  a", "at a ", "at None", "at 5", "at a;", "at abcdefghi", "off a",
            "at a; grid 5 1", "Setting(any)", "a", "5", ";", "; ", "at \u00e9", "grid \u0665 1", "grid 5_0 1",
        ]
        for text in wrong:
            self.assert_raised(InvalidText, text, Setting.read, text)
            self.assert_raised(InvalidText, text, Setting.read, text=text)

    def test_each_sign_left_out_put_in_or_exchanged(self):
        text = "grid 5 1; apart a 3; on b; at c"
        for at in range(len(text) + 1):
            others = {text[:at] + text[at + 1:]}
            for sign in " ;-+_.a0s\n":
                others.add(text[:at] + sign + text[at:])
                others.add(text[:at] + sign + text[at + 1:])
            for other in sorted(others - {text}):
                try:
                    setting = Setting.read(other)
                except InvalidText as error:
                    self.assertIs(error.value, other)
                else:
                    self.assertEqual(str(setting), other)
                    self.assertRegex(other, r"^(grid \d+ \d+; )?(apart \w+ \d+; )?(on \w+; )?at \w+$")

    def test_values_that_are_no_strings(self):
        for value in [None, True, 0, 1.5, b"any", (), ("any",), ["any"], {}, Setting(), Setting, object(),
                      EqualToAll(), NoTruth()]:
            self.assert_raised(InvalidText, value, Setting.read, value)


class DocumentExampleTest(unittest.TestCase):
    def test_setting(self):
        setting = Setting(grid=(5, 1), apart=(("b", 7), ("a", 3)), on_grid=("b",), at_rows="a")
        self.assertEqual(
            [str(setting), setting.distance("c"), setting.keeps(Table(("b", -4, 0), ("b", 6, 0), ("a", 2, 1))),
             setting.keeps(Table(("a", 2, 1), ("a", 4, 1))), setting.asks(Table(("a", 2, 1)), 2), str(Setting()),
             Setting.read(str(setting)) == setting],
            ["grid 5 1; apart a 3; apart b 7; on b; at a", 1, True, False, True, "any", True],
        )


if __name__ == "__main__":
    unittest.main()
