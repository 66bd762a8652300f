"""Values that are not as required, for several tests.

Values that Python holds for equal to good ones are among them, and objects
that say of themselves that they equal everything.
"""


class EqualToAll:
    def __eq__(self, other):
        return True


class NoTruth:
    def __eq__(self, other):
        raise AssertionError("is not to be compared")

    def __bool__(self):
        raise AssertionError("is not to be tested")


NOT_NAMES = [
    "",
    "abcdefghi",
    "a" * 4000,
    "A",
    "aB",
    "Ab",
    "1",
    "1a",
    "0",
    "_a",
    "a_",
    "a-b",
    "a b",
    " a",
    "a ",
    "a\n",
    "\na",
    "a.",
    "`",
    "{",
    "a{",
    "a/",
    "a:",
    "a@",
    "\u00e9",
    "a\u00e9",
    "a\u00b2",
    "a\u0661",
    "\uff41",
    b"a",
    None,
    True,
    False,
    0,
    1,
    1.5,
    (),
    ("a",),
    [],
    ["a"],
    {},
    {"a"},
    str,
    object(),
    EqualToAll(),
    NoTruth(),
]

NOT_INTEGERS = [
    True,
    False,
    None,
    0.0,
    1.0,
    2.5,
    float("inf"),
    float("nan"),
    1j,
    "",
    "1",
    "a",
    b"1",
    (),
    (1,),
    [],
    [1],
    {},
    {1},
    int,
    object(),
    EqualToAll(),
    NoTruth(),
]

NAMES = ["a", "z", "m", "a0", "z9", "a1b2c3d4", "abcdefgh", "a0000000", "quote"]

INTEGERS = [0, 1, -1, 7, -7, 10 ** 9, -(10 ** 9), 2 ** 64, 10 ** 60 - 1, -(10 ** 60) + 1]

NOT_GRIDS = [True, False, 0, 5, 1.5, "", "5 1", b"", (), (5,), (5, 1, 0), [5, 1], {5: 1}, (0, 0), (-1, 0), (61, 0),
             (5, 5), (5, -1), (1, 1), (60, 60), (True, 0), (1, False), (2, True), (5.0, 1), (5, 1.0), ("5", "1"),
             (None, 0), (5, None), ((5, 1),), object(), EqualToAll(), NoTruth()]
