"""Holds what is decided against all small tables: with few rows near the time, run in a plain way."""

import unittest

from latestrows.ages import age_range, example_aged
from latestrows.comparing import alike, difference, outcomes
from latestrows.errors import NeverRead, TooMany
from latestrows.settings import Setting
from latestrows.times import Now

from nested import Maker
from plain_runs import check_example, plain_outcome, small_tables

# Settings for one feed and for two, and how near and how many the rows of the tables are.
ONE_FEED = [
    "any", "apart a 2", "apart a 3", "at a", "at b", "apart a 3; at a", "grid 1 0", "grid 2 0", "grid 3 1",
    "grid 2 1; on a", "grid 3 2; on a", "grid 4 1; on a; at a", "grid 3 0; apart a 2", "grid 2 0; apart a 3; at a",
    "grid 2 0; apart a 3; on a", "grid 3 1; on b; at b",
]
TWO_FEEDS = [
    "any", "apart a 2", "apart a 2; apart b 3; at a", "at b", "grid 2 1", "grid 3 0; on a", "grid 3 2; on a; on b",
    "grid 2 0; on b; at b", "grid 3 1; apart a 2; at a", "grid 2 1; on a; at b",
]


def given(row):
    return None if row is None else row[-1]


def outcome_text(row):
    if row is None:
        return "missing"
    return f"constant {row[1]}" if len(row) == 2 else f"row {row[0]}"


class SmallTablesTest(unittest.TestCase):
    def pairs(self, setting, feeds, seeds):
        """Pairs of small readers: of the same looks, of other ones, and of looks that are written otherwise."""
        for seed in seeds:
            maker = Maker(seed, feeds=feeds, grid=setting.grid is not None)
            looks = maker.looks(seed % 3 + 1)
            first = maker.reader(looks, seed % 4)
            yield first, maker.reader(looks, seed % 3 + 1)
            yield first, maker.reader(maker.looks(1), seed % 2)
            try:
                yield first, first.at(Now() + (0 if seed % 2 else 1))
            except TooMany:
                pass

    def assert_decided(self, setting, feeds, tables, first, second, most):
        example = difference(first, second, setting)
        self.assertIs(alike(first, second, setting), example is None)
        self.assertIs(alike(second, first, setting), example is None)
        if example is not None:
            shown = check_example(self, example, (first, second), setting)
            self.assertNotEqual(given(shown[0]), given(shown[1]))
        read, ages = {}, {feed: set() for feed in feeds}
        for rows, asked in tables:
            row = plain_outcome(first, rows, asked, setting.grid)
            if example is None:
                other = plain_outcome(second, rows, asked, setting.grid)
                self.assertEqual(given(row), given(other), (rows, asked))
            read[outcome_text(row)] = True
            if row is not None and len(row) == 3:
                ages[row[0]].add(asked - row[1])
        self.assert_outcomes(first, setting, read, most)
        for feed in feeds:
            self.assert_ages(first, feed, setting, ages[feed])

    def assert_outcomes(self, reader, setting, read, most):
        found = outcomes(reader, setting)
        self.assertEqual([text for text in sorted(read) if text not in found], [])
        # What needs no rows that are farther away, or more of them, than the small tables have is found there.
        near = all(look.within is not None and look.depth == 1 for look in reader.looks)
        if near and len(reader.looks) + (setting.at_rows is not None) <= most:
            self.assertEqual(list(found), sorted(read))

    def assert_ages(self, reader, feed, setting, ages):
        try:
            least, greatest = age_range(reader, feed, setting)
        except NeverRead:
            self.assertEqual(ages, set())
            self.assertNotIn(f"row {feed}", outcomes(reader, setting))
            return
        self.assertIn(f"row {feed}", outcomes(reader, setting))
        for age in ages:
            self.assertTrue((least is None or least <= age) and (greatest is None or age <= greatest))
        for age in range(-6, 7):
            example = example_aged(reader, feed, age, setting)
            if example is None:
                self.assertNotIn(age, ages)
            else:
                row = check_example(self, example, [reader], setting)[0]
                self.assertEqual((len(row), row[0], example.time - row[1]), (3, feed, age))
        for age, beyond in ((least, -1), (greatest, 1)):
            if age is not None:
                self.assertIsNot(example_aged(reader, feed, age, setting), None)
                self.assertIs(example_aged(reader, feed, age + beyond, setting), None)

    def assert_all(self, texts, feeds, reach, most, seeds):
        for number, text in enumerate(texts):
            setting = Setting.read(text)
            rows_of = feeds if setting.at_rows is None or setting.at_rows in feeds else feeds + setting.at_rows
            tables = list(small_tables(setting, rows_of, reach, most))
            with self.subTest(setting=text):
                for first, second in self.pairs(setting, feeds, range(number * seeds, (number + 1) * seeds)):
                    self.assert_decided(setting, feeds, tables, first, second, most)

    def test_one_feed(self):
        self.assert_all(ONE_FEED, "a", 5, 3, 50)

    def test_one_feed_and_more_rows(self):
        self.assert_all(ONE_FEED[:10], "a", 4, 5, 20)

    def test_two_feeds(self):
        self.assert_all(TWO_FEEDS, "ab", 3, 3, 25)


if __name__ == "__main__":
    unittest.main()
