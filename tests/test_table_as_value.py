import unittest

from latestrows.errors import InvalidRows
from latestrows.tables import Table

from wrong_values import NOT_INTEGERS, NOT_NAMES, EqualToAll, NoTruth

GREAT = 10 ** 60 - 1
ROWS = (("a", -2, 5), ("a", 0, 1), ("a", 1, 0), ("b", 4, GREAT))


class IterationTest(unittest.TestCase):
    def test_rows_in_ascending_order(self):
        table = Table(*reversed(ROWS))
        self.assertEqual(list(table), list(ROWS))
        self.assertEqual([row for row in table], list(ROWS))
        self.assertEqual(list(Table()), [])

    def test_each_iteration_begins_anew(self):
        table = Table(*ROWS)
        first, second = iter(table), iter(table)
        self.assertEqual([next(first), next(first), next(second)], [ROWS[0], ROWS[1], ROWS[0]])

    def test_length_and_truth(self):
        for many in range(len(ROWS) + 1):
            table = Table(*ROWS[:many])
            self.assertEqual(len(table), many)
            self.assertIs(bool(table), many > 0)
        self.assertIs(bool(Table(("a", 0, 0))), True)

    def test_repr(self):
        self.assertEqual(repr(Table()), "Table(0 rows)")
        self.assertEqual(repr(Table(("a", 1, 2))), "Table(1 rows)")
        self.assertEqual(repr(Table(*ROWS)), "Table(4 rows)")
        self.assertEqual(repr(Table(*[("a", time, 0) for time in range(12)])), "Table(12 rows)")


class ContainsTest(unittest.TestCase):
    def setUp(self):
        self.table = Table(*ROWS)

    def test_the_rows_are_in(self):
        for row in ROWS:
            self.assertIs(row in self.table, True)
            self.assertIs(row not in self.table, False)
            self.assertIs(tuple(list(row)) in self.table, True)
            self.assertIs(row in Table(), False)

    def test_other_rows_are_not(self):
        for row in [("a", -2, 6), ("a", 2, 5), ("b", -2, 5), ("c", -2, 5), ("a", 2, 0), ("b", 4, -GREAT)]:
            self.assertIs(row in self.table, False)
            self.assertIs(row not in self.table, True)

    def test_values_that_equal_integers_are_not(self):
        for row in [("a", 0, True), ("a", False, 1), ("a", True, 0), ("a", 1, False), ("a", True, False)]:
            self.assertIs(row in self.table, False)
        for row in [("a", 0, 1.0), ("a", 0.0, 1), ("a", -2.0, 5), ("a", -2, 5 + 0j)]:
            self.assertIs(row in self.table, False)

    def test_any_value_at_all(self):
        values = [
            None, True, False, 0, 1, 1.5, "", "a", b"a", [], ["a", -2, 5], list(ROWS), {}, {"a": 1}, {1}, object(),
            (), ("a",), ("a", -2), ("a", -2, 5, 5), ("a", -2, 5, None), (ROWS[0],), ROWS, (ROWS[0], 1, 2),
            (["a"], -2, 5), ("a", [-2], 5), ("a", -2, [5]), ([], [], []), ({}, {}, {}), self.table, Table(), Table,
            EqualToAll(), NoTruth(), ("a", EqualToAll(), 5), ("a", -2, EqualToAll()), ("a", -2, NoTruth()),
            (EqualToAll(), -2, 5), (EqualToAll(), EqualToAll(), EqualToAll()),
        ]
        for value in values:
            with self.subTest(repr(value)):
                self.assertIs(value in self.table, False)
                self.assertIs(value in Table(), False)

    def test_what_is_no_row(self):
        for wrong in NOT_NAMES:
            self.assertIs((wrong, -2, 5) in self.table, False)
        for wrong in NOT_INTEGERS:
            self.assertIs(("a", wrong, 5) in self.table, False)
            self.assertIs(("a", -2, wrong) in self.table, False)


class EqualityTest(unittest.TestCase):
    def test_tables_with_the_same_rows(self):
        table = Table(*ROWS)
        for other in (table, Table(*reversed(ROWS)), Table.of(ROWS), Table(*ROWS[1:]).with_row(*ROWS[0])):
            self.assertIs(table == other, True)
            self.assertIs(table != other, False)
        self.assertIs(Table() == Table(), True)

    def test_tables_with_other_rows(self):
        table = Table(*ROWS)
        others = [Table(), Table(*ROWS[1:]), table.with_row("a", -2, 6), table.with_row("c", 1, 1)]
        others.append(table.without("a", -2).with_row("a", -3, 5))
        others.append(table.without("a", -2).with_row("c", -2, 5))
        for other in others:
            self.assertIs(table == other, False)
            self.assertIs(other == table, False)
            self.assertIs(table != other, True)

    def test_values_of_other_classes(self):
        for table in (Table(), Table(*ROWS)):
            for value in [None, 0, "", (), [], {}, ROWS, list(ROWS), True, False, "Table(4 rows)", Table, object()]:
                self.assertIs(table == value, False)
                self.assertIs(value == table, False)
                self.assertIs(table != value, True)
            self.assertIs(table == EqualToAll(), False)


class DocumentExamplesTest(unittest.TestCase):
    def test_a_table_and_another_one(self):
        table = Table(("b", 4, 7), ("a", 9, 1), ("a", -2, 5))
        more = table.with_row("a", 9, 2).without("b", 4)
        self.assertEqual(
            [table.rows, table.feeds, table.value_at("b", 4), list(table.times("a")), more.rows, ("a", 9, 2) in more,
             len(table), repr(more)],
            [(("a", -2, 5), ("a", 9, 1), ("b", 4, 7)), ("a", "b"), 7, [-2, 9], (("a", -2, 5), ("a", 9, 2)), True, 3,
             "Table(2 rows)"],
        )

    def test_the_feed_and_time_of_an_earlier_row(self):
        with self.assertRaises(InvalidRows) as caught:
            Table(("a", 1, 0), ("b", 1, 0), ("a", 1, 5))
        self.assertEqual(caught.exception.index, 2)


if __name__ == "__main__":
    unittest.main()
