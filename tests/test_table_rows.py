import inspect
import unittest

from latestrows.errors import InvalidName, InvalidNumber, InvalidTime, MissingRow
from latestrows.tables import Table

from wrong_values import INTEGERS, NAMES, NOT_INTEGERS, NOT_NAMES

GREAT = 10 ** 60 - 1
ROWS = (("a", -2, 5), ("a", 0, -1), ("a", 9, 1), ("b", 4, 7), ("b", 9, GREAT))


class TableCase(unittest.TestCase):
    def setUp(self):
        self.table = Table(*ROWS)

    def tearDown(self):
        self.assertEqual(self.table.rows, ROWS)
        self.assertEqual(self.table.feeds, ("a", "b"))
        self.assertEqual([self.table.value_at(feed, time) for feed, time, _ in ROWS], [row[2] for row in ROWS])

    def assert_raised(self, kind, value, call, /, *passed, **named):
        with self.assertRaises(kind) as caught:
            call(*passed, **named)
        self.assertIs(type(caught.exception), kind)
        if isinstance(value, tuple):
            self.assertEqual(caught.exception.value, value)
            self.assertIs(type(caught.exception.value), tuple)
        else:
            self.assertIs(caught.exception.value, value)


class ValueAtTest(TableCase):
    def test_rows_that_are_there(self):
        for feed, time, value in ROWS:
            self.assertEqual(self.table.value_at(feed, time), value)
            self.assertEqual(self.table.value_at(time=time, feed=feed), value)

    def test_rows_that_are_not_there(self):
        for feed, time in [("a", 1), ("a", 4), ("b", -2), ("b", 8), ("c", 9), ("abcdefgh", GREAT), ("b", -9)]:
            with self.subTest(feed=feed, time=time):
                self.assert_raised(MissingRow, (feed, time), self.table.value_at, feed, time)
                self.assert_raised(MissingRow, (feed, time), self.table.value_at, time=time, feed=feed)
                self.assert_raised(MissingRow, (feed, time), Table().value_at, feed, time)

    def test_wrong_arguments_in_order(self):
        for wrong in NOT_NAMES:
            self.assert_raised(InvalidName, wrong, self.table.value_at, wrong, 9)
            self.assert_raised(InvalidName, wrong, self.table.value_at, wrong, None)
        for wrong in NOT_INTEGERS:
            self.assert_raised(InvalidTime, wrong, self.table.value_at, "a", wrong)
            self.assert_raised(InvalidTime, wrong, self.table.value_at, "c", wrong)
            self.assert_raised(InvalidName, "A", self.table.value_at, time=wrong, feed="A")

    def test_true_and_false_are_no_times(self):
        table = Table(("a", 0, 1), ("a", 1, 2))
        self.assert_raised(InvalidTime, True, table.value_at, "a", True)
        self.assert_raised(InvalidTime, False, table.value_at, "a", False)


class TimesTest(TableCase):
    def test_ascending_times_of_the_feed(self):
        self.assertEqual(list(self.table.times("a")), [-2, 0, 9])
        self.assertEqual(list(self.table.times(feed="b")), [4, 9])
        for feed in ["c", "ab", "a0", "abcdefgh"]:
            self.assertEqual(list(self.table.times(feed)), [])
        self.assertEqual(list(Table().times("a")), [])

    def test_it_is_a_generator(self):
        self.assertTrue(inspect.isgenerator(self.table.times("a")))
        times = self.table.times("a")
        self.assertEqual([next(times), next(times), next(times), next(times, None)], [-2, 0, 9, None])

    def test_each_call_begins_anew(self):
        first, second = self.table.times("a"), self.table.times("a")
        self.assertEqual([next(first), next(first), next(second)], [-2, 0, -2])

    def test_the_error_comes_with_the_first_item(self):
        for wrong in NOT_NAMES:
            times = self.table.times(wrong)
            named = self.table.times(feed=wrong)
            self.assertTrue(inspect.isgenerator(times))
            self.assert_raised(InvalidName, wrong, lambda: next(times))
            self.assert_raised(InvalidName, wrong, lambda: list(named))

    def test_times_of_sixty_digits(self):
        table = Table(("a", GREAT, 0), ("a", -GREAT, 0), ("a", 1 - GREAT, 0))
        self.assertEqual(list(table.times("a")), [-GREAT, 1 - GREAT, GREAT])


class WithRowTest(TableCase):
    def test_a_row_at_a_new_place(self):
        more = self.table.with_row("a", 1, 3)
        self.assertEqual(more.rows, ROWS[:2] + (("a", 1, 3),) + ROWS[2:])
        self.assertEqual(more.value_at("a", 1), 3)
        self.assertEqual(list(more.times("a")), [-2, 0, 1, 9])
        first = self.table.with_row(value=3, time=-GREAT, feed="a0")
        self.assertEqual(first.rows, ROWS[:3] + (("a0", -GREAT, 3),) + ROWS[3:])
        self.assertEqual(first.feeds, ("a", "a0", "b"))

    def test_a_row_in_the_place_of_another_one(self):
        more = self.table.with_row("a", 9, 2)
        self.assertEqual(more.rows, ROWS[:2] + (("a", 9, 2),) + ROWS[3:])
        self.assertEqual(more.value_at("a", 9), 2)
        self.assertEqual(more.value_at("b", 9), GREAT)
        self.assertNotEqual(more, self.table)

    def test_the_same_row_again(self):
        self.assertEqual(self.table.with_row("a", 9, 1), self.table)

    def test_into_the_empty_table(self):
        for name in NAMES:
            for number in INTEGERS:
                self.assertEqual(Table().with_row(name, number, -number), Table((name, number, -number)))

    def test_wrong_arguments_in_order(self):
        for wrong in NOT_NAMES:
            self.assert_raised(InvalidName, wrong, self.table.with_row, wrong, 1, 2)
            self.assert_raised(InvalidName, wrong, self.table.with_row, wrong, None, None)
            self.assert_raised(InvalidName, wrong, self.table.with_row, value="x", time=True, feed=wrong)
        for wrong in NOT_INTEGERS:
            self.assert_raised(InvalidTime, wrong, self.table.with_row, "a", wrong, 2)
            self.assert_raised(InvalidTime, wrong, self.table.with_row, "a", wrong, None)
            self.assert_raised(InvalidNumber, wrong, self.table.with_row, "a", 9, wrong)
            self.assert_raised(InvalidNumber, wrong, self.table.with_row, "c", 5, value=wrong)


class WithoutTest(TableCase):
    def test_rows_that_are_there(self):
        for index, (feed, time, _) in enumerate(ROWS):
            rest = ROWS[:index] + ROWS[index + 1:]
            self.assertEqual(self.table.without(feed, time).rows, rest)
            self.assertEqual(self.table.without(time=time, feed=feed).rows, rest)

    def test_the_row_is_gone(self):
        less = self.table.without("a", 9)
        self.assert_raised(MissingRow, ("a", 9), less.value_at, "a", 9)
        self.assert_raised(MissingRow, ("a", 9), less.without, "a", 9)
        self.assertEqual(less.with_row("a", 9, 1), self.table)

    def test_a_feed_without_rows_is_gone(self):
        less = self.table.without("b", 4).without("b", 9)
        self.assertEqual(less.feeds, ("a",))
        self.assertEqual(Table(("a", 1, 2)).without("a", 1), Table())

    def test_rows_that_are_not_there(self):
        for feed, time in [("a", 1), ("a", 4), ("b", -2), ("c", 9), ("a", GREAT)]:
            self.assert_raised(MissingRow, (feed, time), self.table.without, feed, time)
            self.assert_raised(MissingRow, (feed, time), Table().without, time=time, feed=feed)

    def test_wrong_arguments_in_order(self):
        for wrong in NOT_NAMES:
            self.assert_raised(InvalidName, wrong, self.table.without, wrong, 9)
            self.assert_raised(InvalidName, wrong, self.table.without, time=None, feed=wrong)
        for wrong in NOT_INTEGERS:
            self.assert_raised(InvalidTime, wrong, self.table.without, "a", wrong)
            self.assert_raised(InvalidTime, wrong, self.table.without, "c", time=wrong)


if __name__ == "__main__":
    unittest.main()
