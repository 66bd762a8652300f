"""Trees by hand that miss one condition of a node (point 25)."""

import unittest

from latestrows.checker import holds

from hand_trees import (
    AGED, AGED_TREE, ALIKE, ALIKE_TREE, CEIL, END, FIVE, FLOOR, GRID, GRID_TREE, LATE, LATE_TREE, NEAR, NOW,
    ONE, SAME, TreesCase, changed, clash, under, unneeded,
)
from wrong_parts import ODD


class ClosingTest(TreesCase):
    def test_trees_that_close(self):
        for claim, tree in ((AGED, AGED_TREE), (ALIKE, ALIKE_TREE), (LATE, LATE_TREE), (GRID, GRID_TREE)):
            self.assert_closes(claim, tree)

    def test_by_name(self):
        self.assertIs(holds(certificate=ALIKE_TREE, claim=ALIKE), True)

    def test_other_claims(self):
        """The tree of one claim is not one of another claim, be it true or not."""
        pairs = ((AGED, AGED_TREE), (ALIKE, ALIKE_TREE), (LATE, LATE_TREE), (GRID, GRID_TREE))
        for claim, _ in pairs:
            for other, tree in pairs:
                if claim is not other:
                    self.assert_refused(claim, tree)
        for word in ("unlike", "age", "changed"):
            for claim, tree in pairs:
                self.assertIs(holds((word, *claim[1:]), tree), False)

    def test_more_than_is_needed(self):
        """Nodes that nobody needs do no harm."""
        self.assert_closes(AGED, ("earlier", "now", "now", AGED_TREE, clash(("t", "t", -1))))
        self.assert_closes(AGED, ("look", NEAR, ("side", NEAR, NEAR, AGED_TREE[2], AGED_TREE[2]), END))
        self.assert_closes(("alike", f"else(constant(1), value({NOW}))", "constant(1)", "any"), ("look", NOW, END, END))

    def test_settings_make_a_difference(self):
        self.assert_closes((*GRID[:3], "grid 6 0"), GRID_TREE)
        self.assert_refused((*GRID[:3], "grid 4 0"), GRID_TREE)
        self.assert_refused((*GRID[:3], "grid 1 0"), GRID_TREE)
        self.assert_closes((*GRID[:3], "grid 5 4; apart a 3; on a; at a"), GRID_TREE)
        self.assert_closes((*LATE[:4], "apart b 2; at b"), LATE_TREE)
        # Behind the distance stands another bound.
        self.assert_refused((*LATE[:4], "apart a 2"), LATE_TREE)


class FormTest(TreesCase):
    def test_values_that_are_no_nodes(self):
        for claim, tree in ((AGED, AGED_TREE), (ALIKE, ALIKE_TREE), (LATE, LATE_TREE)):
            for wrong in ODD + ["end", ["end"], ("End",), ("end", ()), ("end", END), ("end", "end"), (END,), ("",),
                                ("clash",), ("look",), ("stop",), (None,), (0,), (b"end",), ("and", END, END)]:
                for path in ("", "A", "B"):
                    self.assertIs(holds(claim, changed(tree, path, wrong)), False)

    def test_lengths(self):
        for path in ("", "A", "AA", "AAA", "AAAA"):
            node = under(ALIKE_TREE, path)
            self.assert_refused_at(ALIKE, ALIKE_TREE, path, node[:-1], node + (END,), node + (None,), node[:1])
            self.assertIs(holds(ALIKE, changed(ALIKE_TREE, path, list(node))), False)

    def test_first_elements_of_any_kind(self):
        for path, places in (("", (1,)), ("AA", (1, 2)), ("AAA", (1, 2))):
            node = under(ALIKE_TREE, path)
            for index in places:
                for wrong in ODD + [NOW[:-1], NOW + " ", "before(b, now)", "t", "p", "0 " + NOW, [NOW], (NOW,)]:
                    self.assertIs(holds(ALIKE, changed(ALIKE_TREE, path, node[:index] + (wrong,) + node[index + 1:])),
                                  False)

    def test_nested_deep(self):
        for wrap in (lambda tree: (tree,), lambda tree: [tree], lambda tree: ("look", NEAR, tree, tree),
                     lambda tree: ("earlier", "now", "now", tree, END), lambda tree: ("clash", (tree,)),
                     lambda tree: {"look": tree}):
            deep = AGED_TREE
            for _ in range(290):
                deep = wrap(deep)
            self.assertIs(holds(AGED, deep), False)
            self.assertIs(holds(ALIKE, deep), False)
            self.assertIs(holds(LATE, deep), False)


class LookTest(TreesCase):
    def test_a_look_of_no_reader(self):
        for label in ("before(b, now, 5)", "before(a, now)", "before(a, now, 5, strict)", "after(a, now, 5)", "now",
                      "0 " + NEAR, "1 " + NEAR, f"time({NEAR})", f"value({NEAR})"):
            self.assert_refused(AGED, ("look", label, *AGED_TREE[2:]))
            self.assert_refused(AGED, ("look", label, AGED_TREE, AGED_TREE))
            self.assert_refused(LATE, ("look", label, LATE_TREE, LATE_TREE))
        self.assert_refused(LATE, ("look", NOW, *LATE_TREE[2:]))

    def test_looks_inside_times_are_looks_of_the_reader(self):
        inner, outer = "before(b, now, 2)", "before(a, time(before(b, now, 2)), 3)"
        claim = ("age at most", f"value({outer})", "a", 5, "any")
        chain = clash((outer, "t", -6), ("t", inner, 2), (inner, outer, 3))
        tree = ("look", inner, ("look", outer, chain, END), END)
        self.assert_closes(claim, tree)
        # Its time is not settled: not asked yet, and found none.
        self.assert_refused(claim, ("look", outer, ("look", inner, chain, END), END))
        self.assert_refused(claim, changed(tree, "B", ("look", outer, END, END)))
        self.assert_refused(claim, ("look", outer, *[("look", inner, chain, END)] * 2))

    def test_a_look_twice_on_one_way(self):
        self.assert_refused(AGED, ("look", NEAR, AGED_TREE, END))
        self.assert_refused_at(ALIKE, ALIKE_TREE, "AA", ("look", NOW, *[under(ALIKE_TREE, "AA")] * 2))
        self.assert_refused_at(ALIKE, ALIKE_TREE, "B", ("look", NOW, *[under(ALIKE_TREE, "B")] * 2))


class SideTest(TreesCase):
    def test_a_side_of_a_look_that_was_not_asked(self):
        side = ("side", SAME, NOW, *under(ALIKE_TREE, "AB")[3:])
        self.assert_refused(ALIKE, ("look", NOW, (*side[:3], under(ALIKE_TREE, "A"), under(ALIKE_TREE, "A")),
                                    under(ALIKE_TREE, "B")))
        self.assert_refused(ALIKE, ("side", NOW, NOW, ALIKE_TREE, ALIKE_TREE))
        self.assert_refused(ALIKE, ("side", "before(b, now)", NOW, ALIKE_TREE, ALIKE_TREE))

    def test_a_row_that_is_none(self):
        node = under(ALIKE_TREE, "AB")
        for row in (SAME, "t", "p", "now", "before(b, now)", "0 " + NOW, f"time({NOW})", ""):
            self.assert_refused_at(ALIKE, ALIKE_TREE, "AB", (*node[:2], row, *node[3:]))
        # A look that found none has no row.
        self.assert_refused_at(ALIKE, ALIKE_TREE, "BB", ("side", NOW, SAME, END, END), ("side", NOW, NOW, END, END),
                               ("side", SAME, NOW, END, END))

    def test_the_row_that_the_look_found_itself(self):
        self.assert_closes(AGED, ("look", NEAR, ("side", NEAR, NEAR, AGED_TREE[2],
                                                 clash(("t", NEAR, -1), (NEAR, "t", 0))), END))

    def test_a_row_of_another_feed(self):
        other = "before(b, now)"
        claim = ("alike", f"else(value({NOW}), value({other}))", f"else(value({NOW}), value({other}))", "any")
        tree = ("look", NOW, END, ("look", other, END, END))
        self.assert_closes(claim, tree)
        self.assert_refused(claim, changed(tree, "BA", ("side", NOW, other, END, END)))
        self.assert_refused(claim, changed(tree, "BA", ("side", other, NOW, END, END)))
        self.assert_closes(claim, changed(tree, "BA", ("side", other, other, END, END)))

    def test_a_side_twice_on_one_way(self):
        side = under(ALIKE_TREE, "AAA")
        self.assert_refused_at(ALIKE, ALIKE_TREE, "AAA", (*side[:3], side, side[4]), (*side[:3], side[3], side))

    def test_the_row_at_the_time_of_the_question(self):
        claim = ("alike", f"value({NOW})", f"else(value({NOW}), constant(1))", "at a")
        tree = ("look", NOW, END, ("side", NOW, "t", clash(("t", "t", -1)), clash(("t", "t", -1))))
        self.assert_closes(claim, tree)
        self.assert_refused((*claim[:3], "any"), tree)
        self.assert_refused((*claim[:3], "at b"), tree)


class OrderTest(TreesCase):
    def test_rows(self):
        node = under(ALIKE_TREE, "AA")
        self.assert_refused_at(
            ALIKE, ALIKE_TREE, "AA", ("order", NOW, NOW, *node[3:]), ("order", NOW, "t", *node[3:]),
            ("order", "p", SAME, *node[3:]), ("order", NOW, "before(b, now)", *node[3:]), ("order", "", "", *node[3:]),
            ("order", NOW, f"time({SAME})", *node[3:]), ("order", SAME, NOW, *node[3:]),
        )
        self.assert_refused_at(ALIKE, ALIKE_TREE, "AB", ("order", NOW, SAME, *under(ALIKE_TREE, "AB")[3:], END))
        turned = ("order", SAME, NOW, node[5], node[4], node[3])
        self.assert_closes_at(ALIKE, ALIKE_TREE, "AA", turned)

    def test_rows_of_two_feeds(self):
        claim, tree = unneeded(NOW, "before(b, now)"), ("look", NOW, ("look", "before(b, now)", END, END), END)
        self.assert_closes(claim, tree)
        for pair in ((NOW, "before(b, now)"), ("before(b, now)", NOW)):
            self.assert_refused(claim, changed(tree, "AA", ("order", *pair, END, END, END)))

    def test_an_order_twice_on_one_way(self):
        node = under(ALIKE_TREE, "AA")
        self.assert_refused_at(ALIKE, ALIKE_TREE, "AA", (*node[:4], node, node[5]), (*node[:3], node, *node[4:]))
        # The other way round it has other first elements.
        turned = ("order", SAME, NOW, END, END, END)
        self.assert_closes_at(ALIKE, ALIKE_TREE, "AAB", turned)


class EarlierTest(TreesCase):
    def test_labels(self):
        node = GRID_TREE
        for label in ("ceil(shift(now, 1))", FLOOR + " ", "t", "p", "0 " + ONE, "1 " + ONE, "time(before(a, now))", ""):
            self.assert_refused(GRID, (node[0], label, *node[2:]))
            self.assert_refused(GRID, (*node[:2], label, *node[3:]))
            self.assert_refused(GRID, ("earlier", label, label, node, node))
        # Times inside times, of the other reader, and the same time twice.
        for first in ("now", FLOOR, ONE, FIVE, CEIL):
            for second in ("now", FLOOR, ONE, FIVE, CEIL):
                if (first, second) not in ((ONE, CEIL), (FIVE, CEIL)):
                    self.assert_closes(GRID, ("earlier", first, second, node, node))

    def test_times_that_are_not_settled(self):
        claim = unneeded(NOW)
        time = f"time({NOW})"
        self.assert_closes(claim, ("look", NOW, ("earlier", time, "now", END, END), END))
        self.assert_refused(claim, ("earlier", time, "now", END, END))
        self.assert_refused(claim, ("earlier", "now", time, END, END))
        self.assert_refused(claim, ("look", NOW, END, ("earlier", time, "now", END, END)))
        self.assert_refused(claim, ("look", NOW, END, ("earlier", "now", time, END, END)))

    def test_twice_on_one_way(self):
        self.assert_refused(GRID, (*GRID_TREE[:3], GRID_TREE, GRID_TREE))
        self.assert_refused_at(GRID, GRID_TREE, "AA", ("earlier", ONE, CEIL, END, END),
                               ("earlier", FIVE, CEIL, END, END))
        self.assert_closes_at(GRID, GRID_TREE, "AA", ("earlier", CEIL, ONE, END, END))

    def test_in_one_run(self):
        claim = ("unchanged", "else(constant(7), ifearlier(now, shift(now, 1), missing, missing))", "a", 0, "any")
        for first, second, closes in (("0 ", "0 ", True), ("1 ", "1 ", True), ("0 ", "1 ", False), ("1 ", "0 ", False),
                                      ("", "", False), ("0 ", "", False), ("", "1 ", False)):
            tree = ("earlier", first + "now", second + "shift(now, 1)", END, END)
            (self.assert_closes if closes else self.assert_refused)(claim, tree)


if __name__ == "__main__":
    unittest.main()
