import unittest

from latestrows.errors import InvalidNumber, NotATime, TooMany
from latestrows.times import After, Before, Ceil, Floor, Now, RowTime, Shift

from nested import SOME_LOOKS, SOME_TIMES, deep
from raising import RaisingCase
from wrong_parts import NOT_SHIFTS, NOT_TIMES

TIMES = [Now(), Shift(Now(), 2), Floor(Now()), Ceil(Now()), RowTime(Before("a", Now()))]


class OperatorsTest(RaisingCase):
    def test_shifts(self):
        for time in TIMES:
            for by in (0, 1, -1, 7, 1000000000, -1000000000):
                self.assertEqual(time + by, Shift(time, by))
                self.assertEqual(time - by, Shift(time, -by))
                self.assertEqual(str(time + by), f"shift({time}, {by})")
                self.assertEqual(str(time - by), f"shift({time}, {-by})")
        self.assertEqual(str(Now() - 0), "shift(now, 0)")
        self.assertEqual(str(Now() + 1 - 2), "shift(shift(now, 1), -2)")

    def test_the_right_operand_as_it_was_written(self):
        for time in TIMES:
            for wrong in NOT_SHIFTS + ["now", Now(), b"", (1,)]:
                self.assert_raised(InvalidNumber, wrong, lambda: time + wrong)
                self.assert_raised(InvalidNumber, wrong, lambda: time - wrong)

    def test_too_deep(self):
        self.assertEqual((deep(7) + 1).depth, 8)
        self.assertEqual((deep(7) - 1).depth, 8)
        ends = [deep(8), Floor(deep(7)), Ceil(deep(7)), RowTime(Before("a", deep(7)))]
        for time in ends:
            self.assert_raised(TooMany, 8, lambda: time + 1)
            self.assert_raised(TooMany, 8, lambda: time - 1)
            self.assert_raised(InvalidNumber, True, lambda: time + True)
            self.assert_raised(InvalidNumber, False, lambda: time - False)
            self.assert_raised(InvalidNumber, 1000000001, lambda: time - 1000000001)

    def test_the_time_stays_as_it_was(self):
        for time in TIMES:
            text = str(time)
            for change in (lambda: time + 1, lambda: time - 1):
                change()
                self.assertEqual(str(time), text)


class AtTest(RaisingCase):
    def test_each_class(self):
        other = Shift(Now(), 3)
        self.assertEqual(str(Now().at(other)), "shift(now, 3)")
        self.assertEqual(str(Shift(Now(), -1).at(other)), "shift(shift(now, 3), -1)")
        self.assertEqual(str(Floor(Now()).at(other)), "floor(shift(now, 3))")
        self.assertEqual(str(Ceil(Now()).at(other)), "ceil(shift(now, 3))")
        self.assertEqual(str(RowTime(Before("a", Now())).at(other)), "time(before(a, shift(now, 3)))")
        self.assertEqual(str(Before("a", Now()).at(other)), "before(a, shift(now, 3))")
        self.assertEqual(str(After("a", Now(), within=0).at(other)), "after(a, shift(now, 3), 0)")
        self.assertEqual(str(Before("a", Now(), strict=True).at(other=other)), "before(a, shift(now, 3), strict)")

    def test_inside_looks_inside(self):
        look = After("b", Floor(RowTime(Before("now", Now() - 1, within=4))), within=2, strict=True)
        self.assertEqual(
            str(look.at(RowTime(Before("c", Now())))),
            "after(b, floor(time(before(now, shift(time(before(c, now)), -1), 4))), 2, strict)",
        )

    def test_what_is_inside_is_that_of_the_new_one(self):
        time = RowTime(Before("b", Floor(Now()))).at(RowTime(After("a", Ceil(Now()))))
        self.assertEqual(time.depth, 5)
        self.assertEqual([str(look) for look in time.looks],
                         ["after(a, ceil(now))", "before(b, floor(time(after(a, ceil(now)))))"])
        self.assertEqual([str(inside) for inside in time.grid_times],
                         ["ceil(now)", "floor(time(after(a, ceil(now))))"])

    def test_every_time_and_look_at_every_time(self):
        for thing in SOME_TIMES + SOME_LOOKS:
            for other in SOME_TIMES:
                text, other_text = str(thing), str(other)
                if thing.depth + other.depth - 1 > 8:
                    self.assert_raised(TooMany, 8, thing.at, other)
                else:
                    changed = thing.at(other)
                    self.assertEqual(changed.depth, thing.depth + other.depth - 1)
                    self.assertEqual(str(changed), other_text.join(text.rsplit("now", 1)))
                self.assertEqual((str(thing), str(other)), (text, other_text))
            self.assertEqual(thing.at(Now()), thing)

    def test_no_time(self):
        for thing in SOME_TIMES + SOME_LOOKS:
            for wrong in NOT_TIMES:
                self.assert_raised(NotATime, wrong, thing.at, wrong)
                self.assert_raised(NotATime, wrong, thing.at, other=wrong)


if __name__ == "__main__":
    unittest.main()
