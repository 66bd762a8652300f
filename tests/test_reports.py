import unittest

from latestrows.ages import age_range
from latestrows.changes import change_range
from latestrows.comparing import outcomes
from latestrows.errors import NeverChanged, NeverRead, NoGrid, NotAReader, NotASetting
from latestrows.readers import Missing
from latestrows.reports import report
from latestrows.settings import Setting
from latestrows.texts import read_reader

from nested import Maker
from raising import RaisingCase
from wrong_parts import NOT_READERS, NOT_SETTINGS

REPORTS = [
    ("missing", "any", "gives missing"),
    ("constant(-5)", "any", "gives constant -5"),
    ("value(before(a, now))", "any", "gives missing, row a\na: age 0 to any, late any to 0"),
    ("value(after(a, now))", "any", "gives missing, row a\na: age any to 0, late 0 to any"),
    ("value(before(a, now))", "at a", "gives row a\na: age 0 to 0, no change"),
    ("value(before(a, now, 9, strict))", "apart a 4; at a", "gives missing, row a\na: age 4 to 9, late -9 to -4"),
    ("value(after(a, now, 9, strict))", "apart a 4; at a", "gives missing, row a\na: age -9 to -4, late 4 to 9"),
    ("else(value(before(a, now)), value(after(a, now)))", "any",
     "gives missing, row a\na: age any to any, late any to any"),
    ("else(constant(10), value(before(a, now)))", "any", "gives constant 10\na: never read, no change"),
    ("else(value(before(b, now)), else(value(before(a, now, 3)), constant(10)))", "any",
     "gives constant 10, row a, row b\na: age 0 to 3, late -3 to 0\nb: age 0 to any, late any to 0"),
    ("value(before(c, time(before(b, time(before(a, now, 1)), 1)), 1))", "any",
     "gives missing, row c\na: never read, late -1 to 0\nb: never read, late -2 to 0\nc: age 0 to 3, late -3 to 0"),
    ("ifearlier(time(before(a, now, 5)), shift(now, -3), constant(1), constant(2))", "any",
     "gives constant 1, constant 2, missing\na: never read, late -5 to 0"),
    ("value(before(a, floor(now), 5))", "grid 4 0; on a", "gives missing, row a\na: age 0 to 7, late -7 to 0"),
]


class ReportTest(RaisingCase):
    def test_reports(self):
        for text, setting, expected in REPORTS:
            with self.subTest(text=text, setting=setting):
                self.assertEqual(report(read_reader(text), Setting.read(setting)), expected)

    def test_by_name(self):
        self.assertEqual(report(setting=Setting(), reader=Missing()), "gives missing")

    def test_at_random(self):
        for seed in range(60):
            maker = Maker(seed, feeds=("c", "a", "b"))
            reader = maker.reader(maker.looks(3), 4)
            setting = Setting.read(["grid 3 1", "grid 4 0; on a", "grid 2 1; apart a 3; at a", "grid 1 0"][seed % 4])
            lines = ["gives " + ", ".join(outcomes(reader, setting))]
            for feed in sorted({look.feed for look in reader.looks}):
                try:
                    age = "age {} to {}".format(*self.sides(age_range(reader, feed, setting)))
                except NeverRead:
                    age = "never read"
                try:
                    late = "late {} to {}".format(*self.sides(change_range(reader, feed, setting)))
                except NeverChanged:
                    late = "no change"
                lines.append(f"{feed}: {age}, {late}")
            self.assertEqual(report(reader, setting), "\n".join(lines))

    def sides(self, pair):
        return ["any" if side is None else side for side in pair]

    def test_errors(self):
        gridded = read_reader("value(before(a, floor(now)))")
        for wrong in NOT_READERS:
            self.assert_raised(NotAReader, wrong, report, wrong, Setting())
            self.assert_raised(NotAReader, wrong, report, wrong, None)
        for wrong in NOT_SETTINGS:
            self.assert_raised(NotASetting, wrong, report, Missing(), wrong)
            self.assert_raised(NotASetting, wrong, report, gridded, wrong)
        self.assert_bare(NoGrid, report, gridded, Setting())
        gridded = read_reader("ifearlier(now, ceil(now), missing, missing)")
        self.assert_bare(NoGrid, report, gridded, Setting(at_rows="a"))

    def test_the_example_of_the_document(self):
        reader = read_reader("else(value(before(a, now, 5)), else(constant(0), value(after(b, now))))")
        self.assertEqual(report(reader, Setting()),
                         "gives constant 0, row a\na: age 0 to 5, late -5 to 0\nb: never read, no change")


if __name__ == "__main__":
    unittest.main()
