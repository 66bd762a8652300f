import unittest

from latestrows.errors import (
    InvalidName, InvalidNumber, InvalidStrict, InvalidWithin, NotALook, NotATime, TooMany,
)
from latestrows.times import After, Before, Ceil, Floor, Now, RowTime, Shift

from nested import LOOK, deep
from raising import RaisingCase
from wrong_parts import NOT_LOOKS, NOT_SHIFTS, NOT_TIMES
from wrong_values import NOT_INTEGERS, NOT_NAMES, EqualToAll, NoTruth

NOT_WITHIN = [value for value in NOT_INTEGERS if value is not None] + [-1, 1000000001, 10 ** 60 - 1]
NOT_STRICT = [None, 0, 1, 2, -1, 0.0, 1.0, "", "strict", "True", (), (True,), [], [True], {}, object(), EqualToAll(),
              NoTruth(), bool]


class TimesErrorsTest(RaisingCase):
    def test_no_time(self):
        for wrong in NOT_TIMES:
            for made in (Floor, Ceil):
                self.assert_raised(NotATime, wrong, made, wrong)
                self.assert_raised(NotATime, wrong, made, time=wrong)
            self.assert_raised(NotATime, wrong, Shift, wrong, 1)
            for made in (Before, After):
                self.assert_raised(NotATime, wrong, made, "a", wrong)

    def test_no_look(self):
        for wrong in NOT_LOOKS:
            self.assert_raised(NotALook, wrong, RowTime, wrong)
            self.assert_raised(NotALook, wrong, RowTime, look=wrong)

    def test_no_shift(self):
        for wrong in NOT_SHIFTS:
            self.assert_raised(InvalidNumber, wrong, Shift, Now(), wrong)
            self.assert_raised(InvalidNumber, wrong, Shift, by=wrong, time=Now())
        for by in (1000000000, -1000000000, 0, 1, -1):
            self.assertEqual(str(Shift(Now(), by)), f"shift(now, {by})")

    def test_no_feed(self):
        for made in (Before, After):
            for wrong in NOT_NAMES:
                self.assert_raised(InvalidName, wrong, made, wrong, Now())
                self.assert_raised(InvalidName, wrong, made, time=Now(), feed=wrong, strict=True)

    def test_no_within(self):
        for made in (Before, After):
            for wrong in NOT_WITHIN:
                self.assert_raised(InvalidWithin, wrong, made, "a", Now(), within=wrong)

    def test_no_strict(self):
        for made in (Before, After):
            for wrong in NOT_STRICT:
                self.assert_raised(InvalidStrict, wrong, made, "a", Now(), strict=wrong)
                self.assert_raised(InvalidStrict, wrong, made, "a", Now(), within=3, strict=wrong)

    def test_several_wrong_arguments(self):
        self.assert_raised(NotATime, "x", Shift, "x", True)
        self.assert_raised(NotATime, LOOK, Shift, by=None, time=LOOK)
        for made in (Before, After):
            self.assert_raised(InvalidName, "A", made, "A", None, within=-1, strict=1)
            self.assert_raised(InvalidName, "A", made, strict=1, within=-1, time=None, feed="A")
            self.assert_raised(NotATime, None, made, "a", None, within=-1, strict=1)
            self.assert_raised(InvalidWithin, -1, made, "a", Now(), within=-1, strict=1)
            self.assert_raised(InvalidWithin, True, made, "a", Now(), strict=0, within=True)


class DepthTest(RaisingCase):
    def test_exactly_beyond_eight(self):
        for depth in range(1, 8):
            for made in (Floor, Ceil):
                self.assertEqual(made(deep(depth)).depth, depth + 1)
            self.assertEqual(Shift(deep(depth), 1).depth, depth + 1)
            for made in (Before, After):
                self.assertEqual(RowTime(made("a", deep(depth))).depth, depth + 1)
        for made in (Floor, Ceil):
            self.assert_raised(TooMany, 8, made, deep(8))
        self.assert_raised(TooMany, 8, Shift, deep(8), 1)
        for made in (Before, After):
            look = made("a", deep(8))
            self.assertEqual(look.depth, 8)
            self.assert_raised(TooMany, 8, RowTime, look)

    def test_looks_inside_looks(self):
        look = LOOK
        for depth in range(2, 9):
            look = After("a", RowTime(look))
            self.assertEqual(look.depth, depth)
        self.assert_raised(TooMany, 8, RowTime, look)

    def test_behind_all_other_errors(self):
        self.assert_raised(InvalidNumber, True, Shift, deep(8), True)
        self.assert_raised(InvalidNumber, 1000000001, Shift, deep(8), 1000000001)
        for made in (Before, After):
            self.assert_raised(InvalidWithin, -1, made, "a", deep(8), within=-1)
            self.assert_raised(InvalidStrict, 1, made, "a", deep(8), strict=1)


if __name__ == "__main__":
    unittest.main()
