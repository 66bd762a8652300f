"""Holds which late rows change an answer against all small tables, with each late row near the time."""

import unittest

from latestrows.changes import change_at, change_range, looks_ahead
from latestrows.errors import NeverChanged
from latestrows.settings import Setting

from nested import Maker
from plain_runs import check_change, plain_keeps, plain_read, small_tables

ONE_FEED = [
    "any", "apart a 2", "apart a 3", "at a", "at b", "apart a 3; at a", "grid 1 0", "grid 2 0", "grid 3 1",
    "grid 2 1; on a", "grid 3 2; on a", "grid 4 1; on a; at a", "grid 3 0; apart a 2", "grid 2 0; apart a 3; at a",
    "grid 2 0; apart a 3; on a", "grid 3 1; on b; at b",
]
TWO_FEEDS = [
    "any", "apart a 2", "apart a 2; apart b 3; at a", "at b", "grid 2 1", "grid 3 0; on a", "grid 3 2; on a; on b",
    "grid 2 0; on b; at b", "grid 3 1; apart a 2; at a", "grid 2 1; on a; at b",
]


class SmallChangesTest(unittest.TestCase):
    def changes(self, reader, feed, setting, tables, reach):
        """The distances at which a late row changes what is read on one of the tables; the values are all unlike."""
        found = set()
        for rows, asked in tables:
            before = plain_read(reader, rows, asked, setting.grid)
            for distance in range(-reach, reach + 1):
                if distance in found or (feed, asked + distance) in [row[:2] for row in rows]:
                    continue
                after = rows + [(feed, asked + distance, 99)]
                if plain_keeps(setting, after) and plain_read(reader, after, asked, setting.grid) != before:
                    found.add(distance)
        return found

    def assert_changes(self, reader, feed, setting, changes):
        try:
            least, greatest = change_range(reader, feed, setting)
        except NeverChanged:
            self.assertEqual(changes, set())
            least, greatest = 1, 0
        for distance in range(-8, 9):
            change = change_at(reader, feed, distance, setting)
            if change is None:
                self.assertNotIn(distance, changes)
            else:
                check_change(self, change, reader, feed, distance, setting)
                self.assertTrue((least is None or least <= distance) and (greatest is None or distance <= greatest))
        if (least, greatest) == (1, 0):
            return False
        for bound, beyond in ((least, -1), (greatest, 1)):
            if bound is not None:
                self.assertIsNot(change_at(reader, feed, bound, setting), None)
                self.assertIs(change_at(reader, feed, bound + beyond, setting), None)
        return greatest is None or greatest > 0

    def assert_all(self, texts, feeds, reach, most, seeds):
        for number, text in enumerate(texts):
            setting = Setting.read(text)
            rows_of = feeds if setting.at_rows is None or setting.at_rows in feeds else feeds + setting.at_rows
            tables = list(small_tables(setting, rows_of, reach, most))
            with self.subTest(setting=text):
                for seed in range(number * seeds, (number + 1) * seeds):
                    maker = Maker(seed, feeds=feeds, grid=setting.grid is not None)
                    reader = maker.reader(maker.looks(seed % 3 + 1), seed % 4)
                    ahead = []
                    for feed in rows_of:
                        changes = self.changes(reader, feed, setting, tables, reach)
                        ahead.append(self.assert_changes(reader, feed, setting, changes))
                    self.assertIs(looks_ahead(reader, setting), any(ahead), str(reader))

    def test_one_feed(self):
        self.assert_all(ONE_FEED, "a", 5, 3, 30)

    def test_one_feed_and_more_rows(self):
        self.assert_all(ONE_FEED[:10], "a", 4, 5, 12)

    def test_two_feeds(self):
        self.assert_all(TWO_FEEDS, "ab", 3, 3, 20)


if __name__ == "__main__":
    unittest.main()
