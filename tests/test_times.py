import unittest

from latestrows.times import After, Before, Ceil, Floor, Now, RowTime, Shift

from nested import SOME_LOOKS, SOME_READERS, SOME_TIMES, deep
from wrong_values import EqualToAll


def texts(things):
    return [str(thing) for thing in things]


class TextsTest(unittest.TestCase):
    def test_times(self):
        look = Before("a", Now())
        expected = [
            (Now(), "now"),
            (Shift(Now(), 5), "shift(now, 5)"),
            (Shift(Now(), -5), "shift(now, -5)"),
            (Shift(Now(), 0), "shift(now, 0)"),
            (Shift(Now(), 1000000000), "shift(now, 1000000000)"),
            (Shift(Now(), -1000000000), "shift(now, -1000000000)"),
            (Floor(Now()), "floor(now)"),
            (Ceil(Now()), "ceil(now)"),
            (RowTime(look), "time(before(a, now))"),
            (Floor(Ceil(Shift(RowTime(look), 1))), "floor(ceil(shift(time(before(a, now)), 1)))"),
        ]
        for time, text in expected:
            self.assertEqual(str(time), text)
            self.assertEqual(repr(time), f"Time({text})")
            self.assertIs(type(str(time)), str)

    def test_looks(self):
        for made, word in ((Before, "before"), (After, "after")):
            expected = [
                (made("a", Now()), "(a, now)"),
                (made("a", Now(), within=None, strict=False), "(a, now)"),
                (made("a", Now(), within=10), "(a, now, 10)"),
                (made("a", Now(), within=0), "(a, now, 0)"),
                (made("a", Now(), within=1000000000), "(a, now, 1000000000)"),
                (made("a", Now(), strict=True), "(a, now, strict)"),
                (made("a", Now(), within=10, strict=True), "(a, now, 10, strict)"),
                (made("a", Now(), strict=True, within=0), "(a, now, 0, strict)"),
                (made("a1b2c3d4", Floor(Now()), within=3), "(a1b2c3d4, floor(now), 3)"),
                (made("strict", RowTime(made("now", Now()))), f"(strict, time({word}(now, now)))"),
            ]
            for look, text in expected:
                self.assertEqual(str(look), word + text)
                self.assertEqual(repr(look), f"Look({word}{text})")
                self.assertIs(type(str(look)), str)

    def test_any_order_and_way_of_passing(self):
        self.assertEqual(str(Shift(by=3, time=Now())), "shift(now, 3)")
        self.assertEqual(str(Floor(time=Now())), "floor(now)")
        self.assertEqual(str(Ceil(time=Now())), "ceil(now)")
        self.assertEqual(str(RowTime(look=Before(time=Now(), feed="a"))), "time(before(a, now))")
        self.assertEqual(str(After(strict=True, time=Now(), within=1, feed="a")), "after(a, now, 1, strict)")
        for made in (Before, After):
            self.assertRaises(TypeError, made, "a", Now(), 5)
            self.assertRaises(TypeError, made, "a", Now(), None, False)
            self.assertRaises(TypeError, made, "a")
        self.assertRaises(TypeError, Now, 1)
        self.assertRaises(TypeError, Shift, Now())


class InsideTest(unittest.TestCase):
    def test_depth(self):
        look = Before("a", Now())
        self.assertEqual(Now().depth, 1)
        self.assertEqual(Shift(Now(), 1).depth, 2)
        self.assertEqual(Floor(Now()).depth, 2)
        self.assertEqual(Ceil(Now()).depth, 2)
        for made in (Before, After):
            self.assertEqual(made("a", Now()).depth, 1)
            self.assertEqual(made("a", Shift(Now(), 1)).depth, 2)
            self.assertEqual(RowTime(made("a", Now())).depth, 2)
            self.assertEqual(RowTime(made("b", RowTime(look), within=1)).depth, 3)
        for depth in range(1, 9):
            self.assertEqual(deep(depth).depth, depth)

    def test_looks(self):
        self.assertEqual(Now().looks, ())
        self.assertEqual(Shift(Now(), 1).looks, ())
        self.assertEqual(Floor(Ceil(Now())).looks, ())
        first = Before("b", Floor(Now()))
        second = After("a", RowTime(first) + 1)
        third = Before("a", Ceil(RowTime(second)))
        self.assertEqual(texts(first.looks), ["before(b, floor(now))"])
        self.assertEqual(texts(second.looks), sorted([str(first), str(second)]))
        self.assertEqual(texts(third.looks), sorted([str(first), str(second), str(third)]))
        # In the order of the texts, whatever the order of nesting is.
        self.assertEqual(third.looks, (second, third, first))
        for time in (RowTime(third), RowTime(third) + 1, Floor(RowTime(third)), Ceil(RowTime(third))):
            self.assertEqual(time.looks, (second, third, first))
            self.assertIs(type(time.looks), tuple)

    def test_grid_times(self):
        self.assertEqual(Now().grid_times, ())
        self.assertEqual(Shift(Now(), 1).grid_times, ())
        self.assertEqual(RowTime(Before("a", Now())).grid_times, ())
        self.assertEqual(Before("a", Now()).grid_times, ())
        floor = Floor(Now())
        self.assertEqual(floor.grid_times, (floor,))
        ceil = Ceil(RowTime(Before("a", floor)))
        self.assertEqual(ceil.grid_times, (ceil, floor))
        floor_above = Floor(ceil)
        self.assertEqual(texts(floor_above.grid_times), [
            "ceil(time(before(a, floor(now))))", "floor(ceil(time(before(a, floor(now)))))", "floor(now)",
        ])
        for thing in (floor_above + 1, Before("a", floor_above), RowTime(After("a", floor_above - 1))):
            self.assertEqual(thing.grid_times, (ceil, floor_above, floor))
            self.assertIs(type(thing.grid_times), tuple)

    def test_each_different_one_once(self):
        time = Now()
        for _ in range(7):
            time = Floor(time)
        self.assertEqual(len(time.grid_times), 7)
        self.assertEqual(texts(time.grid_times), sorted(set(texts(time.grid_times))))
        look = Before("a", Now())
        for _ in range(7):
            look = Before("a", RowTime(look))
        self.assertEqual(look.depth, 8)
        self.assertEqual(len(look.looks), 8)
        self.assertEqual(texts(look.looks), sorted(set(texts(look.looks))))

    def test_what_a_look_was_passed(self):
        time = Floor(Now())
        for made in (Before, After):
            for within in (None, 0, 7, 1000000000):
                for strict in (True, False):
                    look = made("abc", time, within=within, strict=strict)
                    self.assertEqual((look.feed, look.within), ("abc", within))
                    self.assertIs(look.time, time)
                    self.assertIs(look.strict, strict)
            look = made("a", time)
            self.assertIs(look.within, None)
            self.assertIs(look.strict, False)


class EqualityTest(unittest.TestCase):
    def test_by_texts(self):
        things = SOME_TIMES + SOME_LOOKS
        self.assertEqual(len(set(texts(things))), len(things))
        for thing in things:
            for other in things:
                self.assertIs(thing == other, str(thing) == str(other))
                self.assertIs(thing != other, str(thing) != str(other))

    def test_others_with_the_same_text(self):
        self.assertEqual(Now(), Now())
        self.assertEqual(Shift(Now(), 3), Shift(Now(), 3))
        self.assertEqual(Floor(Now()), Floor(Now()))
        self.assertEqual(Ceil(Now()), Ceil(Now()))
        self.assertEqual(RowTime(Before("a", Now())), RowTime(Before("a", Now())))
        self.assertEqual(After("a", Now(), within=1), After("a", Now(), within=1))
        self.assertEqual(Before("a", Now()), Before("a", Now(), within=None, strict=False))

    def test_nothing_of_another_class(self):
        for thing in SOME_TIMES + SOME_LOOKS:
            for other in [str(thing), repr(thing), None, True, 0, 1, (), EqualToAll(), type(thing), *SOME_READERS]:
                self.assertIs(thing == other, False)
                self.assertIs(thing != other, True)

    def test_times_and_looks_are_true(self):
        for thing in SOME_TIMES + SOME_LOOKS:
            self.assertIs(bool(thing), True)


class DocumentExampleTest(unittest.TestCase):
    def test_times(self):
        look = Before("a", Floor(Now() - 5), within=10, strict=True)
        time = RowTime(After("b", RowTime(look) + 1))
        self.assertEqual(
            [str(look), str(time), time.depth, len(time.looks), str(time.looks[0]), str(time.grid_times[0]),
             str(look.at(Now() + 2))],
            ["before(a, floor(shift(now, -5)), 10, strict)",
             "time(after(b, shift(time(before(a, floor(shift(now, -5)), 10, strict)), 1)))", 6, 2,
             "after(b, shift(time(before(a, floor(shift(now, -5)), 10, strict)), 1))", "floor(shift(now, -5))",
             "before(a, floor(shift(shift(now, 2), -5)), 10, strict)"],
        )


if __name__ == "__main__":
    unittest.main()
