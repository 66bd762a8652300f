"""Trees by hand that end on ways that are decided or not, and ones of two runs (point 25)."""

import unittest

from latestrows.certificates import certify_late
from latestrows.settings import Setting
from latestrows.texts import read_reader

from hand_trees import (
    AGED, AGED_TREE, ALIKE, ALIKE_TREE, CEIL, END, GRID, GRID_TREE, LATE, LATE_TREE, NEAR, NOW, ONE, SAME, WITH,
    WITHOUT, TreesCase, changed, clash, under,
)


class EndTest(TreesCase):
    def test_ways_that_are_not_decided(self):
        self.assert_refused(AGED, END)
        self.assert_refused(ALIKE, END)
        self.assert_refused(ALIKE, ("look", NOW, under(ALIKE_TREE, "A"), END))
        self.assert_refused(GRID, END)
        self.assert_refused_at(GRID, GRID_TREE, "A", END)
        # The labels of the two times are there in another order, or only one comparison of two.
        self.assert_refused(GRID, ("earlier", CEIL, ONE, *GRID_TREE[3:]))

    def test_outcomes_that_are_not_the_same(self):
        self.assert_refused_at(ALIKE, ALIKE_TREE, "AA", END)
        self.assert_refused_at(ALIKE, ALIKE_TREE, "AAA", END)
        self.assert_refused_at(ALIKE, ALIKE_TREE, "AAC", END)
        self.assert_refused_at(ALIKE, ALIKE_TREE, "AB", END)
        self.assert_refused_at(ALIKE, ALIKE_TREE, "BA", END)
        self.assert_refused_at(GRID, GRID_TREE, "AB", END)
        for first, second, closes in (("constant(1)", "constant(1)", True), ("constant(1)", "constant(2)", False),
                                      ("constant(0)", "missing", False), ("missing", "missing", True)):
            (self.assert_closes if closes else self.assert_refused)(("alike", first, second, "any"), END)

    def test_the_same_label(self):
        claim = ("alike", f"value({NOW})", f"else(value({NOW}), missing)", "any")
        self.assert_closes(claim, ("look", NOW, END, END))
        other = ("alike", f"value({NOW})", "value(before(b, now))", "any")
        second = ("look", "before(b, now)", END, END)
        self.assert_refused(other, ("look", NOW, second, second))

    def test_times_that_fail(self):
        inner, time = "before(b, now, 2)", "time(before(b, now, 2))"
        outer = f"before(a, {time}, 3)"
        # A look whose time fails need not be asked, and cannot be.
        claim = ("alike", f"value({outer})", f"ifearlier({time}, now, value({outer}), constant(1))", "any")
        tree = ("look", inner, ("earlier", time, "now", ("look", outer, END, END),
                                clash(("t", inner, -1), (inner, "t", 0))), END)
        self.assert_closes(claim, tree)
        self.assert_refused(claim, changed(tree, "A", END))
        self.assert_refused(claim, changed(tree, "B", ("look", outer, END, END)))
        # One of the times fails, whatever has been asked for the other one.
        for times in ((time, f"time({NOW})"), (f"time({NOW})", time)):
            claim = ("alike", f"ifearlier({times[0]}, {times[1]}, constant(1), constant(2))", "missing", "any")
            tree = ("look", inner, ("look", NOW, clash(("t", "t", -1)), END), END)
            self.assert_refused(claim, tree)
            given = ("alike", f"ifearlier({times[0]}, {times[1]}, missing, missing)", "missing", "any")
            whole = ("look", inner, ("look", NOW, ("earlier", *times, END, END), END), END)
            self.assert_closes(given, whole)
            self.assert_refused_at(given, whole, "AA", END)
            self.assert_refused_at(given, whole, "A", END)

    def test_needed_is_what_running_needs(self):
        first, second = f"value({NOW})", f"value({SAME})"
        claim = ("alike", f"else({first}, {second})", first, "any")
        tree = ("look", NOW, END, under(ALIKE_TREE, "B"))
        self.assert_closes(claim, tree)
        claim = ("alike", f"ifearlier(now, now, {first}, {second})", first, "any")
        tree = ("earlier", "now", "now", ("look", NOW, END, END), clash(("t", "t", -1)))
        self.assert_closes(claim, tree)
        self.assert_refused_at(claim, tree, "B", ("look", NOW, END, END))

    def test_ages(self):
        other = "before(b, now)"
        claim = ("age at most", f"else(value({other}), value({NEAR}))", "a", 5, "any")
        tree = ("look", other, END, AGED_TREE)
        self.assert_closes(claim, tree)
        self.assert_refused_at(claim, tree, "BA", END)
        self.assert_refused((*claim[:2], "b", *claim[3:]), tree)
        # Constants and nothing have no age, whatever the number is.
        for reader in ("missing", "constant(9)"):
            self.assert_closes(("age at most", reader, "a", -10 ** 59, "any"), END)
        self.assert_closes(("age at most", f"value({NEAR})", "b", -10 ** 59, "any"), ("look", NEAR, END, END))
        self.assert_refused((*AGED[:3], 4, "any"), AGED_TREE)
        self.assert_refused((*AGED[:3], 6, "any"), AGED_TREE)


class TwoRunsTest(TreesCase):
    def test_prefixes(self):
        for prefix in ("", "0", "1", "2 ", "p "):
            for label in (WITHOUT, WITH):
                self.assert_refused(LATE, ("look", prefix + label[2:], *LATE_TREE[2:]))
        self.assert_refused(LATE, ("look", WITH, *LATE_TREE[2:]))
        self.assert_refused_at(LATE, LATE_TREE, "A", ("look", WITHOUT, *under(LATE_TREE, "A")[2:]))

    def test_rows_of_the_table_without_the_late_row(self):
        # A row found in the other run is one only behind an order node that puts it before or behind the late row.
        side = under(LATE_TREE, "AAAA")
        self.assert_refused_at(LATE, LATE_TREE, "AAA", side)
        self.assert_closes_at(LATE, LATE_TREE, "AAAC", side)
        self.assert_refused_at(LATE, LATE_TREE, "AAAB", side)
        turned = ("order", "p", WITH, *under(LATE_TREE, "AAA")[:2:-1])
        self.assert_closes_at(LATE, LATE_TREE, "AAA", turned)
        # The late row itself is never one of it; it is one of the other table.
        self.assert_refused_at(LATE, LATE_TREE, "AAAA", ("side", WITHOUT, "p", END, END),
                               ("side", WITHOUT, "p", side, side))
        self.assert_closes_at(LATE, LATE_TREE, "AAAA", ("side", WITH, "p", side, side))
        # Rows found in this run are, and those of this table are in the other one, too.
        self.assert_closes_at(LATE, LATE_TREE, "AAAA", ("side", WITHOUT, WITHOUT, side, side),
                              ("side", WITH, WITHOUT, side, side), ("side", WITH, WITH, side, side))

    def test_rows_of_other_feeds(self):
        claim = ("unchanged", f"value({NOW})", "b", 0, "any")
        tree = changed(changed(LATE_TREE, "AAA", under(LATE_TREE, "AAAA")), "BA", under(LATE_TREE, "BAA"))
        self.assert_closes(claim, tree)
        self.assert_refused(LATE, tree)
        self.assert_refused(claim, LATE_TREE)
        self.assert_refused_at(claim, tree, "AAA", ("order", WITH, "p", END, END, END))

    def test_the_row_at_the_time_is_in_both_tables(self):
        for label in (WITHOUT, WITH):
            claim = (*LATE[:4], "at a")
            none = ("side", label, "t", clash(("t", "t", -1)), clash(("t", "t", -1)))
            tree = ("look", label, END, none)
            self.assert_refused(claim, tree)
            self.assert_closes(("unchanged", f"else(constant(7), value({NOW}))", "a", 0, "at a"), tree)
            self.assert_refused(("unchanged", f"else(constant(7), value({NOW}))", "a", 0, "at b"), tree)

    def test_rows_that_cannot_be_the_late_one(self):
        claim = ("unchanged", f"else(constant(7), value({NOW}))", "a", 0, "at a")
        never = clash(("t", "t", -1))
        for first, second in (("t", "p"), ("p", "t")):
            self.assert_closes(claim, ("order", first, second, END, never, END))
            self.assert_refused(claim, ("order", first, second, never, END, END))
        for first, second in ((WITHOUT, "p"), ("p", WITHOUT)):
            self.assert_closes(claim, ("look", WITHOUT, ("order", first, second, END, never, END), END))
        for first, second in ((WITH, "p"), ("p", WITH), (WITH, "t"), ("t", WITH)):
            self.assert_refused(claim, ("look", WITH, ("order", first, second, END, never, END), END))
        for first, second in ((WITHOUT, WITH), (WITH, WITHOUT), (WITHOUT, "t"), ("t", WITHOUT)):
            order = ("order", first, second, END, never, END)
            self.assert_refused(claim, ("look", WITHOUT, ("look", WITH, order, END), END))

    def test_the_outcomes_of_the_two_runs(self):
        self.assert_refused_at(LATE, LATE_TREE, "AA", END)
        self.assert_refused_at(LATE, LATE_TREE, "AAA", END)
        self.assert_refused_at(LATE, LATE_TREE, "AAC", END)
        self.assert_refused_at(LATE, LATE_TREE, "AB", END)
        self.assert_refused_at(LATE, LATE_TREE, "BA", END)
        self.assert_refused_at(LATE, LATE_TREE, "A", END)
        turned = ("order", WITH, WITHOUT, *under(LATE_TREE, "AA")[:2:-1])
        self.assert_closes_at(LATE, LATE_TREE, "AA", turned)

    def test_numbers(self):
        for number in (-10 ** 59, -5, -1, 1, 5):
            self.assert_refused((*LATE[:3], number, "any"), LATE_TREE)

    def test_ages_are_of_no_account(self):
        """The bound for rows that are too old is stated for claims of ages alone."""
        for label in ("0 " + NEAR, "1 " + NEAR):
            claim = ("unchanged", f"value({NEAR})", "a", 6, "any")
            chain = clash((label, "t", -7), ("t", label, 5))
            both = ("look", "0 " + NEAR, ("look", "1 " + NEAR, chain, chain), ("look", "1 " + NEAR, chain, END))
            self.assert_refused(claim, both)
            self.assert_refused(claim, ("look", label, chain, END))
        claim = ("unchanged", f"else(value({NEAR}), constant(7))", "a", 6, "any")
        tree, again = certify_late(read_reader(claim[1]), "a", 6, Setting())[1], "0 " + NEAR
        self.assert_closes(claim, tree)
        self.assert_refused(claim, ("look", again, clash((again, "t", -7), ("t", again, 5)), tree[3]))

    def test_the_feed_of_the_late_row(self):
        self.assert_refused((*LATE[:2], "b", *LATE[3:]), LATE_TREE)
        self.assert_closes(("unchanged", "constant(7)", "zz", -10 ** 59, "any"), END)


if __name__ == "__main__":
    unittest.main()
