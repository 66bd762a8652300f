"""Trees by hand that close, for the tests of what trees have to meet."""

import unittest

from latestrows.checker import holds

from plain_trees import SHAPES, plain_closes

END = ("end",)
NOW = "before(a, now)"
SAME = "before(a, shift(now, 0))"
NEAR = "before(a, now, 5)"


def clash(*bounds):
    return ("clash", bounds)


def place(node, letter):
    return SHAPES[node[0]][0] + "ABC".index(letter)


def under(tree, path):
    """The tree inside the tree that these letters lead to."""
    for letter in path:
        tree = tree[place(tree, letter)]
    return tree


def changed(tree, path, new):
    """The tree with another one in the place that these letters lead to."""
    if path == "":
        return new
    index = place(tree, path[0])
    return tree[:index] + (changed(tree[index], path[1:], new),) + tree[index + 1:]


def unneeded(*looks, setting="any"):
    """A claim of readers that give a constant, whatever their other parts are, so that each way is decided.

    The times of the looks, and times far away from now, are among the times of the other parts.
    """
    parts = [f"ifearlier(time({look}), shift(now, -100), missing, value({look}))" for look in looks]
    inside = "ifearlier(shift(now, 100), now, missing, missing)"
    for part in parts:
        inside = f"else({part}, {inside})"
    return ("alike", f"else(constant(7), {inside})", "constant(7)", setting)


# A row that is not older than the bound, as in the document.
AGED = ("age at most", f"value({NEAR})", "a", 5, "any")
AGED_TREE = ("look", NEAR, clash(("t", NEAR, 5), (NEAR, "t", -6)), END)

# Two looks that find the same.
ALIKE = ("alike", f"value({NOW})", f"value({SAME})", "any")
ALIKE_TREE = (
    "look", NOW,
    ("look", SAME,
     ("order", NOW, SAME,
      ("side", NOW, SAME, clash((NOW, SAME, -1), (SAME, NOW, 0)), clash(("t", SAME, -1), (SAME, "t", 0))),
      END,
      ("side", SAME, NOW, clash((SAME, NOW, -1), (NOW, SAME, 0)), clash(("t", NOW, -1), (NOW, "t", 0)))),
     ("side", SAME, NOW, clash(("t", "t", -1)), clash(("t", NOW, -1), (NOW, "t", 0)))),
    ("look", SAME,
     ("side", NOW, SAME, clash(("t", "t", -1)), clash(("t", SAME, -1), (SAME, "t", 0))),
     END),
)

# A late row behind the time of the question changes nothing.
WITHOUT, WITH = "0 " + NOW, "1 " + NOW
LATE = ("unchanged", f"value({NOW})", "a", 0, "any")
SEEN = ("order", WITH, "p",
        ("side", WITHOUT, WITH, clash((WITH, WITHOUT, 0), (WITHOUT, WITH, -1)), clash(("t", WITH, -1), (WITH, "t", 0))),
        clash(("p", WITH, 0), (WITH, "t", 0), ("t", "p", -1)),
        clash(("p", WITH, -1), (WITH, "t", 0), ("t", "p", -1)))
LATE_TREE = (
    "look", WITHOUT,
    ("look", WITH,
     ("order", WITHOUT, WITH,
      SEEN,
      END,
      ("side", WITH, WITHOUT, clash((WITHOUT, WITH, 0), (WITH, WITHOUT, -1)),
       clash(("t", WITHOUT, -1), (WITHOUT, "t", 0)))),
     ("side", WITH, WITHOUT, clash(("t", "t", -1)), clash(("t", WITHOUT, -1), (WITHOUT, "t", 0)))),
    ("look", WITH, changed(SEEN, "AA", clash(("t", "t", -1))), END),
)

# Grid times: their difference is 0 or the step.
FLOOR, CEIL = "floor(now)", "ceil(now)"
ONE, FIVE = f"shift({FLOOR}, 1)", f"shift({FLOOR}, 5)"
GRID = ("alike", f"ifearlier({ONE}, {CEIL}, constant(1), constant(2))",
        f"ifearlier({FIVE}, {CEIL}, constant(1), constant(2))", "grid 5 0")
GRID_TREE = (
    "earlier", ONE, CEIL,
    ("earlier", FIVE, CEIL, END, clash((FLOOR, CEIL, -1), (CEIL, FLOOR, 4))),
    ("earlier", FIVE, CEIL, clash((FLOOR, CEIL, -5), (CEIL, FLOOR, 0)), END),
)

# A row on the grid, found from a grid time.
ROW = "before(a, floor(now), 9)"
ON_GRID = ("age at most", f"value({ROW})", "a", 9, "grid 10 0; on a")
ON_GRID_CHAIN = ((ROW, "t", -10), ("t", FLOOR, 9), (FLOOR, ROW, 9))


class TreesCase(unittest.TestCase):
    def assert_closes(self, claim, tree):
        self.assertIs(plain_closes(claim, tree), True)
        self.assertIs(holds(claim, tree), True)

    def assert_refused(self, claim, tree):
        self.assertIs(holds(claim, tree), False)
        self.assertIs(plain_closes(claim, tree), False)

    def assert_refused_at(self, claim, tree, path, *others):
        """With one of the others in the place that the letters lead to, the tree does not close any more."""
        self.assert_closes(claim, tree)
        for other in others:
            with self.subTest(path=path, other=other):
                self.assert_refused(claim, changed(tree, path, other))

    def assert_closes_at(self, claim, tree, path, *others):
        for other in others:
            with self.subTest(path=path, other=other):
                self.assert_closes(claim, changed(tree, path, other))
