"""Trees by hand that show which bounds are stated, and which chains clash (point 25)."""

import unittest

from latestrows.checker import holds

from hand_trees import (
    AGED, AGED_TREE, ALIKE, ALIKE_TREE, END, NEAR, NOW, ON_GRID, ON_GRID_CHAIN, ROW, SAME, TreesCase, changed,
    clash, unneeded,
)
from plain_trees import plain_closes
from wrong_parts import ODD


class StatedTest(TreesCase):
    """Just which bounds are stated: of all chains with a bound that could be meant, only those with these close."""

    def far(self, label, time, bound):
        """A tree that closes if the bound is stated: the label would have to be far from the time."""
        if bound[0] == bound[1]:
            return clash(bound)
        pair = (time, "shift(now, -100)") if bound[1] == label else ("shift(now, 100)", time)
        return ("earlier", *pair, clash(bound, (bound[1], bound[0], -100)), END)

    def assert_stated(self, claim, label, stated, tree):
        expected = [tuple(label if part == "v" else part for part in bound) for bound in stated]
        found = []
        for first, second in (("t", label), (label, "t"), ("t", "t"), (label, label)):
            for most in range(-16, 0 if first == second else 17):
                node = tree((first, second, most))
                closes = holds(claim, node)
                self.assertIs(plain_closes(claim, node), closes)
                if closes:
                    found.append((first, second, most))
        self.assertEqual(sorted(found), sorted(expected), claim)

    def test_found_rows(self):
        for text, stated in (
            ("before(a, shift(now, 3), 7)", [("v", "t", 3), ("t", "v", 4)]),
            ("before(a, shift(now, 3), 7, strict)", [("v", "t", 2), ("t", "v", 4)]),
            ("before(a, shift(now, 3))", [("v", "t", 3)]),
            ("before(a, shift(now, 3), strict)", [("v", "t", 2)]),
            ("after(a, shift(now, 3), 7)", [("t", "v", -3), ("v", "t", 10)]),
            ("after(a, shift(now, 3), 7, strict)", [("t", "v", -4), ("v", "t", 10)]),
            ("after(a, shift(now, 3))", [("t", "v", -3)]),
            ("after(a, shift(now, 3), strict)", [("t", "v", -4)]),
        ):
            time = f"time({text})"
            self.assert_stated(unneeded(text), text, stated, lambda bound: (
                "look", text, self.far(text, time, bound), END))
            # Where the look finds none, nothing is stated, and there is no such unknown.
            self.assert_stated(unneeded(text), text, [], lambda bound: ("look", text, END, clash(bound)))

    def test_sides_of_a_found_row(self):
        for text, own, far, near in (
            ("before(a, shift(now, 3))", ("v", "t", 3), ("t", "v", 0), ("t", "t", -4)),
            ("before(a, shift(now, 3), strict)", ("v", "t", 2), ("t", "v", 0), ("t", "t", -3)),
            ("after(a, shift(now, -3))", ("t", "v", 3), ("v", "t", 0), ("t", "t", -4)),
            ("after(a, shift(now, -3), strict)", ("t", "v", 2), ("v", "t", 0), ("t", "t", -3)),
        ):
            claim, time = unneeded(text, setting="at a"), f"time({text})"
            self.assert_stated(claim, text, [own, far], lambda bound: (
                "look", text, ("side", text, "t", self.far(text, time, bound), END), END))
            self.assert_stated(claim, text, [own, near], lambda bound: (
                "look", text, ("side", text, "t", END, self.far(text, time, bound)), END))

    def test_sides_of_a_look_that_found_none(self):
        for text, far, near in (
            ("before(a, shift(now, 3), 7)", -5, -4), ("before(a, shift(now, 3), 7, strict)", -5, -3),
            ("before(a, shift(now, 3))", -1, -4), ("before(a, shift(now, 3), strict)", -1, -3),
            ("after(a, shift(now, -3), 7)", -5, -4), ("after(a, shift(now, -3), 7, strict)", -5, -3),
            ("after(a, shift(now, -3))", -1, -4), ("after(a, shift(now, -3), strict)", -1, -3),
        ):
            claim = unneeded(text, setting="at a")
            self.assert_stated(claim, text, [("t", "t", far)], lambda bound: (
                "look", text, END, ("side", text, "t", clash(bound), END)))
            self.assert_stated(claim, text, [("t", "t", near)], lambda bound: (
                "look", text, END, ("side", text, "t", END, clash(bound))))

    def test_orders(self):
        text = "before(a, shift(now, 30))"
        for setting, apart in (("at a", 1), ("apart a 5; at a", 5), ("apart b 5; at a", 1)):
            for rows, turn in ((("t", text), 1), ((text, "t"), -1)):
                sides = [[("t", "v", -apart)], [("t", "v", 0), ("v", "t", 0)], [("v", "t", -apart)]]
                for number, stated in enumerate(sides[::turn]):
                    def tree(bound):
                        trees = [END, END, END]
                        trees[number] = self.far(text, f"time({text})", bound)
                        return ("look", text, ("order", *rows, *trees), END)
                    self.assert_stated(unneeded(text, setting=setting), text, stated, tree)

    def test_earlier(self):
        text = "before(a, shift(now, 30))"
        low, high = "shift(now, 9)", f"shift(shift(time({text}), 4), 3)"
        claim = unneeded(text, f"before(b, {low})", f"before(b, {high})")
        for pair, number, stated in (((low, high), 0, ("t", "v", -2)), ((low, high), 1, ("v", "t", 1)),
                                     ((high, low), 0, ("v", "t", 2)), ((high, low), 1, ("t", "v", -3))):
            def tree(bound):
                trees = [END, END]
                trees[number] = self.far(text, f"time({text})", bound)
                return ("look", text, ("earlier", *pair, *trees), END)
            self.assert_stated(claim, text, [stated], tree)

    def test_grid_times(self):
        inside = f"time({NOW})"
        for time, stated in (("floor(shift(now, 3))", [("v", "t", 3), ("t", "v", 4)]),
                             ("ceil(shift(now, 3))", [("t", "v", -3), ("v", "t", 10)])):
            claim = unneeded(f"before(a, {time})", setting="grid 8 2")
            self.assert_stated(claim, time, stated, lambda bound: self.far(time, time, bound))
        # As soon as the times inside are settled, and not if they fail.
        claim = unneeded(f"before(a, floor({inside}))", setting="grid 8 2")
        chain = clash((NOW, f"floor({inside})", 7), (f"floor({inside})", "t", -100), ("t", NOW, 0))
        pair = ("earlier", f"floor({inside})", "shift(now, -100)")
        tree = ("look", NOW, ("earlier", "now", inside, (*pair, chain, END), END), END)
        self.assert_closes(claim, tree)
        self.assert_refused(claim, changed(tree, "B", chain))
        self.assert_refused((*claim[:3], "grid 7 2"), tree)
        self.assert_refused((*claim[:3], "grid 9 2"), tree)

    def test_the_late_row(self):
        for number in (-1, 0, 4, 10 ** 59):
            claim = ("unchanged", "constant(7)", "a", number, "at a")
            for most in (-number - 1 + off for off in (-7, -2, -1, 0, 1, 2, 7)):
                tree = ("order", "t", "p", END, END, clash(("t", "p", most), ("p", "t", -1)))
                closes = most == -number - 1
                (self.assert_closes if closes else self.assert_refused)(claim, tree)
        # Only with two runs there is a late row.
        self.assert_refused(unneeded(NOW, setting="at a"), ("order", "t", "p", END, END, END))
        self.assert_refused(("age at most", "constant(7)", "a", 0, "at a"), ("order", "t", "p", END, END, END))

    def test_the_age(self):
        text, number = "before(a, shift(now, 30), 30)", 50
        claim = ("age at most", f"value({text})", "a", number, "any")
        for most in range(-60, 20):
            tree = ("look", text, clash((text, "t", most), ("t", text, 0)), END)
            (self.assert_closes if most == -number - 1 else self.assert_refused)(claim, tree)
        # Only where the outcome is told to be this row, and for rows of the feed alone.
        chain = clash((text, "t", -number - 1), ("t", text, 0))
        held = f"ifearlier(shift(now, 1), now, missing, value({text}))"
        claim = ("age at most", held, "a", number, "any")
        whole = ("earlier", "shift(now, 1)", "now", END, ("look", text, chain, END))
        self.assert_closes(claim, whole)
        self.assert_refused(claim, changed(whole, "A", ("look", text, chain, END)))
        self.assert_refused(claim, ("look", text, chain, END))
        asked = ("earlier", "shift(now, 1)", "now")
        self.assert_closes(claim, ("look", text, (*asked, END, chain), (*asked, END, END)))
        other = "before(b, now)"
        claim = ("age at most", f"else(value({other}), value({text}))", "a", number, "any")
        tree = ("look", other, END, ("look", text, chain, END))
        self.assert_closes(claim, tree)
        self.assert_closes(claim, ("look", text, ("look", other, END, chain), ("look", other, END, END)))
        self.assert_refused(claim, ("look", text, ("look", other, chain, chain), ("look", other, END, END)))
        self.assert_refused(("age at most", f"else(value({other}), value({text}))", "b", number, "any"), tree)


class ClashTest(TreesCase):
    CHAIN = (("t", NEAR, 5), (NEAR, "t", -6))

    def assert_chain_refused(self, *chains):
        self.assert_refused_at(AGED, AGED_TREE, "A", *[("clash", chain) for chain in chains])

    def test_what_is_no_chain(self):
        one, two = self.CHAIN
        self.assert_chain_refused((), (one,), (two,), (one, one), (two, two), (one, two, one), ((), ()), (one, ()),
                                  (one, two[:2]), (one, (*two, 0)), ((one, two),), (one, NEAR), (NEAR, "t", -6))
        for wrong in ODD + [list(self.CHAIN), [one, two], {one: two}, {one, two}, NEAR, self.CHAIN[0]]:
            self.assertIs(holds(AGED, changed(AGED_TREE, "A", ("clash", wrong))), False)
            self.assertIs(holds(AGED, changed(AGED_TREE, "A", ("clash", (one, wrong)))), False)
            self.assertIs(holds(AGED, changed(AGED_TREE, "A", ("clash", (one, two, wrong)))), False)
            for place in range(3):
                bound = one[:place] + (wrong,) + one[place + 1:]
                if type(wrong) is not int and wrong is not NEAR:
                    self.assertIs(holds(AGED, changed(AGED_TREE, "A", ("clash", (bound, two)))), False)
        self.assertIs(holds(AGED, changed(AGED_TREE, "A", ("clash", (list(one), two)))), False)
        self.assertIs(holds(AGED, changed(AGED_TREE, "A", ("clash", (("t", NEAR, 5.0), two)))), False)

    def test_true_is_no_integer(self):
        claim = ("age at most", "value(before(a, now, 1))", "a", 1, "any")
        text = "before(a, now, 1)"
        tree = ("look", text, clash(("t", text, 1), (text, "t", -2)), END)
        self.assert_refused_at(claim, tree, "A", clash(("t", text, True), (text, "t", -2)))

    def test_bounds_that_are_not_stated_or_one_off(self):
        one, two = self.CHAIN
        for off in (-7, -1, 1):
            self.assert_chain_refused((("t", NEAR, 5 + off), two), (one, (NEAR, "t", -6 + off)))
        self.assert_chain_refused((("t", "t", -1),), ((NEAR, NEAR, -1),), (("p", "p", -1),),
                                  (("t", "now", 5), ("now", "t", -6)), ((NEAR, "t", 5), ("t", NEAR, -6)))
        # Stated, but on another way.
        self.assert_refused_at(ALIKE, ALIKE_TREE, "AAAA", clash((SAME, NOW, -1), (NOW, SAME, 0)))
        self.assert_refused_at(ALIKE, ALIKE_TREE, "AAAB", clash(("t", NOW, -1), (NOW, "t", 0)))
        self.assert_refused_at(ALIKE, ALIKE_TREE, "BAA", clash(("t", SAME, -1), (SAME, "t", 0)))
        self.assert_refused_at(ALIKE, ALIKE_TREE, "BB", clash(("t", "t", -1)))

    def test_a_chain_that_does_not_join(self):
        first, second = (NOW, SAME, -1), (SAME, NOW, 0)
        path = "AAAA"
        self.assert_closes_at(ALIKE, ALIKE_TREE, path, clash(second, first), clash(first, second, first, second))
        loop = (NOW, "t", 0)
        self.assert_refused_at(ALIKE, ALIKE_TREE, path, clash(first, second, loop), clash(loop, first, second),
                               clash(first, loop), clash(first, first, second), clash(second, second, first))

    def test_a_chain_that_is_not_below_0(self):
        text = "before(a, now, 5)"
        claim = ("age at most", f"value({text})", "a", 4, "any")
        tree = ("look", text, clash(("t", text, 5), (text, "t", -5)), END)
        self.assert_refused(claim, tree)
        self.assert_refused(AGED, ("look", NEAR, clash(("t", NEAR, 5), (NEAR, "t", 0)), END))
        # More bounds that join, but sum up to more.
        self.assert_refused_at(AGED, AGED_TREE, "A", clash(*self.CHAIN, ("t", NEAR, 5), (NEAR, "t", 0)))

    def test_rounding_at_places_on_the_grid(self):
        def tree(*chain):
            return ("look", ROW, clash(*chain), END)
        chain = ON_GRID_CHAIN
        # Wherever it begins; the last piece runs on into the first one.
        for start in range(3):
            self.assert_closes(ON_GRID, tree(*chain[start:], *chain[:start]))
        self.assert_closes(ON_GRID, tree(*chain, *chain))
        # Its sum is not below 0; it is the rounding that makes it so.
        self.assertEqual(sum(most for _, _, most in chain), 8)
        for setting in ("grid 10 0", "grid 10 0; on b", "grid 10 0; on b; at a"):
            self.assert_refused((*ON_GRID[:4], setting), tree(*chain))
        for setting in ("grid 10 7; on a", "grid 10 0; apart a 3; on a; on b", "grid 10 0; on a; at b",
                        "grid 10 0; on a; at a", "grid 10 0; on a; on b; at b"):
            self.assert_closes((*ON_GRID[:4], setting), tree(*chain))
        for setting in ("grid 9 0; on a", "grid 11 0; on a"):
            self.assert_refused((*ON_GRID[:4], setting), tree(*chain))

    def test_rounding_down_of_each_piece(self):
        """With the question on the grid, too, pieces that could be rounded together are rounded one by one."""
        text = "before(a, shift(now, -3), 13)"
        claim = ("age at most", f"value({text})", "a", 9, "grid 10 0; on a; on b; at b")
        # From 3 to 16 back: on the grid it is 10.
        tree = ("look", text, clash((text, "t", -10), ("t", text, 16)), END)
        self.assert_refused(claim, tree)
        claim = ("age at most", f"value({text})", "a", 10, "grid 10 0; on a; on b; at b")
        chain = (text, "t", -11), ("t", text, 16)
        self.assert_closes(claim, ("look", text, clash(*chain), END))
        self.assert_refused((*claim[:4], "grid 10 0; on a"), ("look", text, clash(*chain), END))
        self.assert_refused((*claim[:4], "grid 10 0; on b; at b"), ("look", text, clash(*chain), END))
        self.assert_refused((*claim[:4], "grid 10 0; on a; on b"), ("look", text, clash(*chain), END))

    def test_one_place_on_the_grid(self):
        """Nothing is rounded there: it would not matter, as the sum is below 0 or not."""
        text = "before(a, now, 5)"
        for number, closes in ((4, False), (5, True), (9, True)):
            claim = ("age at most", f"value({text})", "a", number, "grid 10 0; on a")
            tree = ("look", text, clash((text, "t", -number - 1), ("t", text, 5)), END)
            (self.assert_closes if closes else self.assert_refused)(claim, tree)

    def test_the_late_row_on_the_grid(self):
        claim = ("unchanged", "constant(7)", "a", 0, "grid 10 0; on a; at a")
        # Behind the time, and so a step behind it, and before it: no chain but these two.
        tree = ("order", "t", "p", END, clash(("t", "t", -1)), clash(("t", "p", -1), ("p", "t", -1)))
        self.assert_closes(claim, tree)
        chain = clash(("t", "p", -1), ("p", "t", 9))
        reader = "else(constant(7), value(after(a, now, 9)))"
        held = ("unchanged", reader, "a", 0, "grid 10 0; on a; at a")
        found = "1 after(a, now, 9)"
        near = ("look", found, ("order", found, "p", END,
                                clash(("t", "p", -1), ("p", found, 0), (found, "t", 9)), END), END)
        self.assert_closes(held, near)
        self.assert_refused((*held[:4], "grid 10 0; on a"), near)
        self.assert_refused((*held[:4], "at a"), near)
        self.assert_refused(claim, chain)


if __name__ == "__main__":
    unittest.main()
