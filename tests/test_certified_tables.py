"""Certificates that are tables and times: right ones, and ones that miss one condition of point 24 each."""

import unittest

from latestrows.checker import holds

from wrong_parts import ODD
from wrong_values import NOT_INTEGERS, NOT_NAMES

NOW = "value(before(a, now))"
NEAR = "value(before(a, now, 5))"
FLOORED = "value(before(a, floor(now)))"
FAR = 10 ** 59


class TablesCase(unittest.TestCase):
    def assert_shown(self, claim, *certificates):
        for certificate in certificates:
            with self.subTest(claim=claim, certificate=certificate):
                self.assertIs(holds(claim, certificate), True)

    def assert_refused(self, claim, *certificates):
        for certificate in certificates:
            self.assertIs(holds(claim, certificate), False, (claim, certificate))

    def assert_forms(self, claim, certificate):
        """Any value of another form, at any place, is refused."""
        self.assert_shown(claim, certificate)
        rows = certificate[0]
        self.assert_refused(claim, certificate[:-1], certificate + (0,), certificate + (None,), list(certificate),
                            certificate[::-1], (certificate,), ("end",), ("clash", ()), rows, *ODD)
        for wrong in ODD + [list(rows), set(rows), {rows: 1}, (rows,), rows + (None,), rows + ((),), rows + (rows,),
                            tuple(list(row) for row in rows) + ([],), "rows", iter(rows)]:
            if type(wrong) is not tuple or len(wrong) > 0:
                self.assertIs(holds(claim, (wrong, *certificate[1:])), False)
        for place in range(1, len(certificate)):
            for wrong in NOT_INTEGERS:
                self.assertIs(holds(claim, certificate[:place] + (wrong,) + certificate[place + 1:]), False)
        self.assert_rows(claim, certificate)

    def assert_rows(self, claim, certificate):
        """More rows of another feed do no harm; more that are no rows, or come twice, do."""
        rows, rest = certificate[0], certificate[1:]
        good = ("zz", 0, 0)
        self.assert_shown(claim, ((*rows, good), *rest), ((good, *rows), *rest), ((*rows[::-1], good), *rest))
        for wrong in NOT_NAMES:
            self.assertIs(holds(claim, ((*rows, (wrong, 0, 0)), *rest)), False)
        for wrong in NOT_INTEGERS:
            self.assertIs(holds(claim, ((*rows, ("zz", wrong, 0)), *rest)), False)
            self.assertIs(holds(claim, ((*rows, ("zz", 0, wrong)), *rest)), False)
        self.assert_refused(claim, ((*rows, good, good), *rest), ((*rows, good, ("zz", 0, 1)), *rest),
                            ((*rows, good[:2]), *rest), ((*rows, (*good, 0)), *rest), ((*rows, list(good)), *rest))
        for row in rows:
            self.assert_refused(claim, ((*rows, row), *rest), ((*rows, (*row[:2], row[2] + 1)), *rest))


class UnlikeTest(TablesCase):
    def test_right_and_wrong(self):
        claim = ("unlike", NOW, "missing", "any")
        self.assert_shown(claim, ((("a", -7, 1),), 0), ((("a", 0, 1),), 0), ((("a", 5, 1), ("a", -7, 1)), 0),
                          ((("b", 5, 1), ("a", -FAR, FAR)), FAR))
        self.assert_refused(claim, ((("a", 7, 1),), 0), ((), 0), ((("b", -7, 1),), 0))
        claim = ("unlike", NOW, f"else({NEAR}, constant(3))", "any")
        self.assert_shown(claim, ((), 0), ((("a", 0, 5),), 6), ((("a", 0, 4),), 6))
        # Numbers count, not where they come from.
        self.assert_refused(claim, ((("a", 0, 3),), 6), ((("a", 0, 4),), 5))
        self.assert_refused(("unlike", "constant(1)", "constant(1)", "any"), ((), 0))
        self.assert_shown(("unlike", "constant(1)", "missing", "any"), ((), 0))
        self.assert_shown(("unlike", "constant(0)", "missing", "any"), ((), 0))

    def test_settings(self):
        rows = (("a", 1, 1), ("a", 4, 2), ("b", 0, 3))
        for setting, is_kept in (("any", True), ("apart a 3", True), ("apart a 4", False), ("apart b 99", True),
                                 ("grid 3 1", True), ("grid 3 1; on a", True), ("grid 3 0; on a", False),
                                 ("grid 3 1; on a; on b", False), ("at a", True), ("at b", False), ("at zz", False)):
            (self.assert_shown if is_kept else self.assert_refused)(("unlike", NOW, "missing", setting), (rows, 4))
        # Floor and ceil work on the grid of the setting.
        for grid, is_shown in (("grid 5 0", False), ("grid 4 0", True), ("grid 3 2", True), ("grid 3 1", False)):
            claim = ("unlike", NOW, FLOORED, grid)
            (self.assert_shown if is_shown else self.assert_refused)(claim, ((("a", 10, 1), ("a", 3, 2)), 10))

    def test_forms(self):
        self.assert_forms(("unlike", NOW, "missing", "any"), ((("a", -7, 1), ("a", 4, 2)), 0))
        self.assert_forms(("unlike", NOW, "missing", "apart a 3; at b"), ((("b", 0, 5), ("a", -7, 1)), 0))


class AgeTest(TablesCase):
    def test_right_and_wrong(self):
        claim = ("age", NOW, "a", 7, "any")
        self.assert_shown(claim, ((("a", -7, 1),), 0), ((("a", 0, 1), ("a", 9, 3)), 7), ((("a", -FAR, 1),), 7 - FAR))
        self.assert_refused(claim, ((("a", -6, 1),), 0), ((("a", -8, 1),), 0), ((("a", 7, 1),), 0), ((), 0),
                            ((("a", -7, 1), ("a", -3, 1)), 0), ((("b", -7, 1),), 0))
        self.assert_shown(("age", "value(after(a, now))", "a", -7, "any"), ((("a", 7, 1),), 0))
        self.assert_refused(("age", "value(after(a, now))", "a", 7, "any"), ((("a", 7, 1),), 0))

    def test_outcomes(self):
        claim = ("age", f"else(value(before(b, now, 1)), {NOW})", "a", 2, "any")
        self.assert_shown(claim, ((("a", 0, 1),), 2), ((("a", 0, 1), ("b", 0, 1)), 2))
        self.assert_refused(claim, ((("a", 0, 1), ("b", 1, 1)), 2), ((("a", 0, 1), ("b", 1, 1)), 3))
        self.assert_refused((*claim[:2], "b", 2, "any"), ((("a", 0, 1), ("b", 0, 1)), 2))
        self.assert_shown((*claim[:2], "b", 1, "any"), ((("a", 0, 1), ("b", 1, 1)), 2))
        # The age is that of the row that is given, not of one inside its time; and constants have none.
        self.assert_refused(("age", "value(before(b, time(before(a, now))))", "a", 2, "any"),
                            ((("a", 0, 1), ("b", 0, 1)), 2))
        for number in (0, 1, 2):
            self.assert_refused(("age", "constant(2)", "constant", number, "any"), ((("constant", 0, 2),), 2), ((), 2))
            self.assert_refused(("age", "missing", "a", number, "any"), ((), 0))

    def test_settings(self):
        rows = (("a", 1, 1), ("a", 4, 2), ("b", 0, 3))
        for setting, is_kept in (("any", True), ("apart a 3", True), ("apart a 4", False), ("grid 3 1; on a", True),
                                 ("grid 3 0; on a", False), ("at a", True), ("at b", False)):
            (self.assert_shown if is_kept else self.assert_refused)(("age", NOW, "a", 0, setting), (rows, 4))
        self.assert_shown(("age", FLOORED, "a", 10, "grid 5 0"), (rows, 14))
        self.assert_shown(("age", FLOORED, "a", 3, "grid 5 4"), (rows, 7))
        self.assert_refused(("age", FLOORED, "a", 0, "grid 5 0"), (rows, 4))

    def test_forms(self):
        self.assert_forms(("age", NOW, "a", 7, "any"), ((("a", -7, 1), ("a", 4, 2)), 0))
        self.assert_forms(("age", NOW, "a", 7, "apart a 3; at b"), ((("b", 0, 5), ("a", -7, 1)), 0))


class ChangedTest(TablesCase):
    def test_right_and_wrong(self):
        claim = ("changed", NEAR, "a", -3, "any")
        self.assert_shown(claim, ((), 0, 9), ((("a", -4, 9),), 0, 8), ((("a", 1, 9), ("b", 0, 1)), FAR, -FAR))
        # The late row is not found, has the same number, or has the place of a row that is there.
        self.assert_refused(claim, ((("a", -2, 9),), 0, 8), ((("a", -4, 9),), 0, 9), ((("a", -3, 9),), 0, 8),
                            ((("a", -3, 9),), 0, 9))
        self.assert_refused(("changed", NEAR, "a", -6, "any"), ((), 0, 9))
        self.assert_refused(("changed", NEAR, "a", 1, "any"), ((), 0, 9))
        self.assert_refused(("changed", NEAR, "b", -3, "any"), ((), 0, 9))
        self.assert_shown(("changed", "value(after(a, now))", "a", FAR, "any"), ((), 0, 9))
        self.assert_shown(("changed", f"else({NOW}, constant(4))", "a", 0, "any"), ((), 0, 3))
        self.assert_refused(("changed", f"else({NOW}, constant(4))", "a", 0, "any"), ((), 0, 4))

    def test_settings(self):
        rows = (("a", 4, 1), ("b", 9, 2))
        for setting, is_kept in (
            ("any", True), ("apart a 3", True), ("apart a 4", False), ("apart b 99", True), ("grid 3 1; on a", True),
            ("grid 5 4; on a", False), ("grid 3 1; on a; on b", False), ("at b", True), ("at zz", False),
            # The time is asked on the table without the late row.
            ("at a", False),
        ):
            (self.assert_shown if is_kept else self.assert_refused)(("changed", NOW, "a", -2, setting), (rows, 9, 7))
        at_late = ("changed", NOW, "a", 0, "at a")
        self.assert_refused(at_late, ((("a", 4, 1),), 9, 7), ((("a", 9, 1),), 9, 7))
        self.assert_shown(("changed", "value(before(a, now, strict))", "a", -2, "at a"), ((("a", 9, 1),), 9, 7))
        # The rows themselves keep the setting, too.
        self.assert_refused(("changed", NOW, "a", -2, "apart b 3"), ((("b", 0, 1), ("b", 2, 1)), 9, 7))
        self.assert_shown(("changed", FLOORED, "a", -4, "grid 5 0"), ((), 9, 7))
        self.assert_refused(("changed", FLOORED, "a", -3, "grid 5 0"), ((), 9, 7))

    def test_forms(self):
        self.assert_forms(("changed", NOW, "a", -7, "any"), ((("a", -9, 1), ("a", 4, 2)), 0, 5))
        self.assert_forms(("changed", NOW, "a", -7, "apart a 2; at b"), ((("b", 0, 5), ("a", -9, 1)), 0, 5))


class OtherClaimsTest(TablesCase):
    def test_trees_do_not_show_them(self):
        look = "before(a, now)"
        for word in ("unlike", "age", "changed"):
            claim = (word, NOW, "missing", "any") if word == "unlike" else (word, NOW, "a", 0, "any")
            self.assert_refused(claim, ("end",), ("look", look, ("end",), ("end",)), ("clash", (("t", "t", -1),)))

    def test_tables_do_not_show_claims_about_all_tables(self):
        for certificate in (((), 0), ((), 0, 0), ((("a", 0, 1),), 0), ((("a", 0, 1),), 0, 5)):
            self.assert_refused(("alike", "missing", "missing", "any"), certificate)
            self.assert_refused(("age at most", "missing", "a", 0, "any"), certificate)
            self.assert_refused(("unchanged", "missing", "a", 0, "any"), certificate)


if __name__ == "__main__":
    unittest.main()
