import itertools
import unittest

from latestrows.errors import InvalidRows
from latestrows.tables import Table

from wrong_values import INTEGERS, NAMES, NOT_INTEGERS, NOT_NAMES, EqualToAll, NoTruth

GREAT = 10 ** 60 - 1

NOT_ROWS = (
    [
        None,
        True,
        0,
        5,
        1.5,
        "",
        "a",
        "abc",
        b"abc",
        [],
        ["a", 1, 2],
        {"a": 1},
        {"a", 1, 2},
        object(),
        EqualToAll(),
        NoTruth(),
        Table(),
        Table(("a", 1, 2)),
        (),
        ("a",),
        ("a", 1),
        ("a", 1, 2, 3),
        ("a", 1, 2, None),
        (("a", 1, 2),),
        ("a", "a", 1),
        (1, "a", 2),
        (["a"], 1, 2),
        ("a", [1], 2),
        ("a", 1, [2]),
    ]
    + [(value, 1, 2) for value in NOT_NAMES]
    + [("a", value, 2) for value in NOT_INTEGERS]
    + [("a", 1, value) for value in NOT_INTEGERS]
)


class MakingTest(unittest.TestCase):
    def assert_index(self, rows, index):
        with self.assertRaises(InvalidRows) as caught:
            Table(*rows)
        self.assertIs(type(caught.exception), InvalidRows)
        self.assertEqual(caught.exception.index, index)
        with self.assertRaises(InvalidRows) as caught:
            Table.of(tuple(rows))
        self.assertEqual(caught.exception.index, index)

    def test_no_rows(self):
        for table in (Table(), Table.of(())):
            self.assertEqual(table.rows, ())
            self.assertEqual(table.feeds, ())

    def test_rows_in_any_order(self):
        rows = [("b", 4, 7), ("a", 9, 1), ("a", -2, 5), ("b", -4, 7)]
        for order in itertools.permutations(rows):
            for table in (Table(*order), Table.of(order), Table.of(rows=order)):
                self.assertEqual(table, Table(*rows))
                self.assertEqual(table.rows, (("a", -2, 5), ("a", 9, 1), ("b", -4, 7), ("b", 4, 7)))
                self.assertEqual(table.feeds, ("a", "b"))

    def test_rows_are_ascending_by_feed_and_then_by_time(self):
        table = Table(("b", 1, 0), ("a10", 1, 0), ("a9", 10, 0), ("a9", 9, 9), ("a", 2, 0), ("a", -10, 0), ("a", -9, 0))
        self.assertEqual(
            table.rows,
            (("a", -10, 0), ("a", -9, 0), ("a", 2, 0), ("a10", 1, 0), ("a9", 9, 9), ("a9", 10, 0), ("b", 1, 0)),
        )
        self.assertEqual(table.feeds, ("a", "a10", "a9", "b"))

    def test_integers_of_sixty_digits(self):
        table = Table(("a", GREAT, -GREAT), ("a", -GREAT, GREAT), ("a", GREAT - 1, 0), ("a", 0, 0))
        self.assertEqual(table.rows, (("a", -GREAT, GREAT), ("a", 0, 0), ("a", GREAT - 1, 0), ("a", GREAT, -GREAT)))
        self.assertEqual(table.value_at("a", GREAT), -GREAT)

    def test_one_time_for_several_feeds_and_one_value_for_several_rows(self):
        table = Table(("b", 1, 5), ("a", 1, 5), ("a", 2, 5))
        self.assertEqual(len(table), 3)

    def test_many_rows(self):
        rows = [(feed, time, -time) for feed in ("a", "b") for time in range(-125, 125)]
        table = Table(*reversed(rows))
        self.assertEqual(table.rows, tuple(rows))

    def test_names_and_integers(self):
        for name, time, value in itertools.product(NAMES, INTEGERS, INTEGERS):
            self.assertEqual(Table((name, time, value)).rows, ((name, time, value),))

    def test_each_way_to_be_no_row(self):
        good = [("a", 1, 0), ("b", 1, 0), ("c", 1, 0)]
        for index in range(4):
            for wrong in NOT_ROWS:
                with self.subTest(index=index, wrong=repr(wrong)):
                    self.assert_index(good[:index] + [wrong] + good[index:], index)

    def test_a_row_that_is_there_again(self):
        self.assert_index([("a", 1, 0), ("a", 1, 0)], 1)
        self.assert_index([("a", 1, 0), ("b", 1, 0), ("a", 2, 0), ("a", 1, 0), ("b", 1, 0)], 3)

    def test_the_feed_and_time_of_an_earlier_row(self):
        self.assert_index([("a", 1, 0), ("b", 1, 0), ("a", 1, 5)], 2)
        self.assert_index([("a", 1, 5), ("b", 1, 0), ("a", 1, 0)], 2)
        self.assert_index([("a", -GREAT, 0), ("a", GREAT, 0), ("a", -GREAT, 1)], 2)

    def test_several_wrong_elements(self):
        self.assert_index([("a", 1, 0), None, ("a", 1, 5)], 1)
        self.assert_index([("a", 1, 0), ("a", 1, 5), None], 1)
        self.assert_index([None, None], 0)
        self.assert_index([("a", 1, 0), ("a", 1, 1), ("a", 1, 2)], 1)
        self.assert_index([("b", 0, 0), ("a", True, 1), ("a", 1, 1), ("A", 1, 1), ["b"]], 1)
        # A row that is none does not stand for its feed and time.
        self.assert_index([("a", 1, 0), ("b", 1, 2), ("a", 1, None), ("a", 1, 0)], 2)

    def test_values_that_are_no_tuple(self):
        row = ("a", 1, 0)
        wrong = [
            None, True, 0, 5, -1, 1.5, "", "abc", b"abc", [], [row], [None], {}, {row: 1}, {row}, iter((row,)),
            range(2), Table(), Table(row), object(), EqualToAll(), NoTruth(),
        ]
        for value in wrong:
            with self.subTest(repr(value)):
                with self.assertRaises(InvalidRows) as caught:
                    Table.of(value)
                self.assertIs(caught.exception.index, None)
                with self.assertRaises(InvalidRows) as caught:
                    Table.of(rows=value)
                self.assertIs(caught.exception.index, None)

    def test_of_can_be_called_off_a_table(self):
        self.assertEqual(Table().of((("a", 1, 0),)), Table(("a", 1, 0)))

    def test_what_a_table_gives_makes_it_again(self):
        table = Table(("b", 4, 7), ("a", 9, 1), ("a", -2, 5))
        self.assertEqual(Table.of(table.rows), table)
        self.assertEqual(Table(*table), table)


if __name__ == "__main__":
    unittest.main()
