import unittest

from latestrows.errors import InvalidNumber, NotALook, NotAReader, NotATime, TooMany
from latestrows.readers import Constant, Else, IfEarlier, Missing, Value
from latestrows.times import After, Before, Ceil, Floor, Now, RowTime

from nested import LOOK, SOME_LOOKS, SOME_READERS, SOME_TIMES, deep
from raising import RaisingCase
from wrong_parts import NOT_LOOKS, NOT_READERS, NOT_TIMES
from wrong_values import INTEGERS, NOT_INTEGERS, EqualToAll

A, B, C, D = [Before(feed, Now()) for feed in "abcd"]


def texts(things):
    return [str(thing) for thing in things]


def tower(parts):
    """A reader with this odd number of parts, without looks."""
    reader = Missing()
    for _ in range(parts // 2):
        reader = Else(reader, Missing())
    return reader


class TextsTest(unittest.TestCase):
    def test_each_class(self):
        expected = [
            (Value(LOOK), "value(before(a, now))"),
            (Value(After("b", Now() - 1, within=5, strict=True)), "value(after(b, shift(now, -1), 5, strict))"),
            (Constant(5), "constant(5)"),
            (Constant(-3), "constant(-3)"),
            (Missing(), "missing"),
            (Else(Constant(1), Missing()), "else(constant(1), missing)"),
            (IfEarlier(Now(), Floor(Now()), Missing(), Missing()), "ifearlier(now, floor(now), missing, missing)"),
        ]
        for reader, text in expected:
            self.assertEqual(str(reader), text)
            self.assertEqual(repr(reader), f"Reader({text})")
            self.assertIs(type(str(reader)), str)

    def test_integers_of_any_size(self):
        for number in INTEGERS:
            self.assertEqual(str(Constant(number)), f"constant({number})")

    def test_the_example_of_the_document(self):
        quote = Before("a", Floor(Now()), within=10)
        reader = Else(Value(quote), IfEarlier(Now(), RowTime(After("b", Now())) - 5, Constant(0), Missing()))
        self.assertEqual(
            str(reader),
            "else(value(before(a, floor(now), 10)), "
            "ifearlier(now, shift(time(after(b, now)), -5), constant(0), missing))",
        )

    def test_by_name(self):
        self.assertEqual(Value(look=LOOK), Value(LOOK))
        self.assertEqual(Constant(number=4), Constant(4))
        self.assertEqual(Else(second=Missing(), first=Constant(1)), Else(Constant(1), Missing()))
        self.assertEqual(
            IfEarlier(second=Missing(), first=Constant(1), other=Ceil(Now()), time=Now()),
            IfEarlier(Now(), Ceil(Now()), Constant(1), Missing()),
        )

    def test_or(self):
        for first in SOME_READERS:
            for second in SOME_READERS:
                self.assertEqual(first | second, Else(first, second))
                self.assertEqual(str(first | second), f"else({first}, {second})")
            for wrong in NOT_READERS:
                with self.assertRaises(NotAReader) as caught:
                    first | wrong
                self.assertIs(caught.exception.value, wrong)
        with self.assertRaises(TooMany) as caught:
            Value(A) | Value(B) | Value(C) | Value(D)
        self.assertEqual(caught.exception.limit, 3)


class InsideTest(unittest.TestCase):
    def test_looks(self):
        self.assertEqual(Missing().looks, ())
        self.assertEqual(Constant(1).looks, ())
        inner = Before("b", Now())
        outer = After("a", RowTime(inner))
        self.assertEqual(Value(outer).looks, (outer, inner))
        self.assertEqual(Else(Value(inner), Value(outer)).looks, (outer, inner))
        self.assertEqual(Else(Value(inner), Value(Before("b", Now()))).looks, (inner,))
        reader = IfEarlier(RowTime(inner), RowTime(Before("c", Now())), Value(outer), Missing())
        self.assertEqual(texts(reader.looks), ["after(a, time(before(b, now)))", "before(b, now)", "before(c, now)"])
        self.assertEqual(IfEarlier(Now(), RowTime(inner), Missing(), Missing()).looks, (inner,))
        self.assertEqual(IfEarlier(Now(), Now(), Missing(), Value(inner)).looks, (inner,))

    def test_grid_times(self):
        self.assertEqual(Missing().grid_times, ())
        self.assertEqual(Constant(1).grid_times, ())
        floor, ceil = Floor(Now()), Ceil(Now())
        self.assertEqual(Value(Before("a", floor)).grid_times, (floor,))
        self.assertEqual(Else(Value(Before("a", floor)), Value(Before("b", Ceil(Now())))).grid_times, (ceil, floor))
        self.assertEqual(IfEarlier(floor, ceil, Value(Before("a", Floor(Now()))), Missing()).grid_times, (ceil, floor))
        self.assertEqual(IfEarlier(Now(), ceil, Missing(), Value(Before("a", floor))).grid_times, (ceil, floor))

    def test_parts(self):
        for reader in (Value(LOOK), Constant(1), Missing()):
            self.assertEqual(reader.parts, (reader,))
        one, two = Constant(1), Constant(2)
        pair = Else(one, two)
        self.assertEqual(pair.parts, (pair, one, two))
        choice = IfEarlier(Now(), Now(), pair, Missing())
        self.assertEqual(choice.parts, (choice, pair, one, two, Missing()))
        whole = Else(choice, pair)
        self.assertEqual(whole.parts, (whole, choice, pair, one, two, Missing(), pair, one, two))
        self.assertEqual(texts(Else(one, Else(one, one)).parts),
                         ["else(constant(1), else(constant(1), constant(1)))", "constant(1)",
                          "else(constant(1), constant(1))", "constant(1)", "constant(1)"])
        for reader in SOME_READERS:
            self.assertIs(type(reader.parts), tuple)
            self.assertEqual(reader.parts[0], reader)


class EqualityTest(unittest.TestCase):
    def test_by_texts(self):
        self.assertEqual(len(set(texts(SOME_READERS))), len(SOME_READERS))
        for reader in SOME_READERS:
            for other in SOME_READERS:
                self.assertIs(reader == other, str(reader) == str(other))
                self.assertIs(reader != other, str(reader) != str(other))
        self.assertEqual(Value(Before("a", Now())), Value(Before("a", Now(), strict=False)))
        self.assertEqual(Missing(), Missing())
        self.assertEqual(Else(Missing(), Constant(1)), Missing() | Constant(1))

    def test_nothing_of_another_class(self):
        for reader in SOME_READERS:
            others = [str(reader), repr(reader), None, True, 0, 1, (), EqualToAll(), type(reader)]
            for other in others + SOME_TIMES + SOME_LOOKS:
                self.assertIs(reader == other, False)
                self.assertIs(reader != other, True)

    def test_readers_are_true(self):
        for reader in SOME_READERS:
            self.assertIs(bool(reader), True)


class ErrorsTest(RaisingCase):
    def test_no_look(self):
        for wrong in NOT_LOOKS:
            self.assert_raised(NotALook, wrong, Value, wrong)
            self.assert_raised(NotALook, wrong, Value, look=wrong)

    def test_no_integer(self):
        for wrong in NOT_INTEGERS:
            self.assert_raised(InvalidNumber, wrong, Constant, wrong)
            self.assert_raised(InvalidNumber, wrong, Constant, number=wrong)

    def test_no_readers(self):
        for wrong in NOT_READERS:
            self.assert_raised(NotAReader, wrong, Else, wrong, Missing())
            self.assert_raised(NotAReader, wrong, Else, Missing(), wrong)
            self.assert_raised(NotAReader, wrong, Else, wrong, None)
            self.assert_raised(NotAReader, wrong, Else, second="x", first=wrong)
            self.assert_raised(NotAReader, wrong, IfEarlier, Now(), Now(), wrong, None)
            self.assert_raised(NotAReader, wrong, IfEarlier, Now(), Now(), Missing(), wrong)

    def test_no_times(self):
        for wrong in NOT_TIMES:
            self.assert_raised(NotATime, wrong, IfEarlier, wrong, Now(), Missing(), Missing())
            self.assert_raised(NotATime, wrong, IfEarlier, Now(), wrong, Missing(), Missing())
            self.assert_raised(NotATime, wrong, IfEarlier, wrong, "x", None, None)
            self.assert_raised(NotATime, wrong, IfEarlier, Now(), wrong, "y", None)
            self.assert_raised(NotATime, wrong, IfEarlier, second=None, first="y", other="x", time=wrong)

    def test_limits_behind_all_other_errors(self):
        beyond = [Value(A) | Value(B), Value(C) | Value(D)]
        self.assert_raised(NotAReader, "x", Else, beyond[0], "x")
        self.assert_raised(NotATime, "x", IfEarlier, RowTime(A), "x", *beyond)
        self.assert_raised(NotAReader, "x", IfEarlier, RowTime(C), RowTime(D), beyond[0], "x")


class LimitsTest(RaisingCase):
    def test_looks(self):
        chain = LOOK
        for depth in range(2, 9):
            chain = Before("a", RowTime(chain))
            if depth <= 3:
                self.assertEqual(len(Value(chain).looks), depth)
            else:
                self.assert_raised(TooMany, 3, Value, chain)
        three = Else(Else(Value(A), Value(B)), Value(C))
        self.assertEqual(len(three.looks), 3)
        self.assertEqual(len(Else(three, three).looks), 3)
        self.assertEqual(len(Else(three, Value(A)).looks), 3)
        self.assert_raised(TooMany, 3, Else, three, Value(D))
        self.assert_raised(TooMany, 3, Else, Value(D), three)
        self.assertEqual(len(IfEarlier(RowTime(A), RowTime(B), Value(C), Value(A)).looks), 3)
        self.assert_raised(TooMany, 3, IfEarlier, RowTime(A), RowTime(B), Value(C), Value(D))
        self.assert_raised(TooMany, 3, IfEarlier, RowTime(D), Now(), three, Missing())
        self.assert_raised(TooMany, 3, IfEarlier, Now(), RowTime(D), Missing(), three)
        self.assert_raised(TooMany, 3, IfEarlier, Now(), Now(), Value(D), three)

    def test_grid_times(self):
        one, two, three = Floor(Now()), Ceil(Now()), Floor(Now() + 1)
        pair = Else(Value(Before("a", one)), Value(Before("a", two)))
        self.assertEqual(len(pair.grid_times), 2)
        self.assertEqual(len(Else(pair, pair).grid_times), 2)
        self.assert_raised(TooMany, 2, Else, pair, Value(Before("a", three)))
        self.assert_raised(TooMany, 2, Value, Before("a", Floor(Floor(Floor(Now())))))
        self.assertEqual(len(Value(Before("a", Floor(Floor(Now())))).grid_times), 2)
        self.assertEqual(len(IfEarlier(one, two, pair, Missing()).grid_times), 2)
        self.assert_raised(TooMany, 2, IfEarlier, one, three, Value(Before("a", two)), Missing())
        self.assert_raised(TooMany, 2, IfEarlier, three, Now(), pair, Missing())
        self.assert_raised(TooMany, 2, IfEarlier, Now(), three, Missing(), pair)
        self.assert_raised(TooMany, 2, IfEarlier, Floor(Floor(Floor(Now()))), Now(), Missing(), Missing())

    def test_parts(self):
        self.assertEqual([len(tower(parts).parts) for parts in range(1, 20, 2)], list(range(1, 20, 2)))
        nine, ten_and_nine = tower(9), tower(19)
        self.assertEqual(len(Else(nine, nine).parts), 19)
        self.assert_raised(TooMany, 20, Else, ten_and_nine, Missing())
        self.assert_raised(TooMany, 20, Else, Missing(), ten_and_nine)
        self.assert_raised(TooMany, 20, Else, tower(11), nine)
        self.assertEqual(len(IfEarlier(Now(), Now(), tower(11), tower(7)).parts), 19)
        self.assert_raised(TooMany, 20, IfEarlier, Now(), Now(), tower(11), nine)
        self.assert_raised(TooMany, 20, IfEarlier, Now(), Now(), Missing(), ten_and_nine)

    def test_the_first_limit_that_holds(self):
        gridded = [Value(Before(feed, Floor(Now() + by))) for by, feed in enumerate("abcd")]
        self.assert_raised(TooMany, 3, Else, gridded[0] | gridded[1], Value(C) | Value(D))
        self.assert_raised(TooMany, 2, Else, gridded[0] | gridded[1], gridded[2])
        both = RowTime(Before("a", Floor(Now()))), RowTime(Before("b", Ceil(Now())))
        self.assert_raised(TooMany, 3, IfEarlier, *both, gridded[1], gridded[2])
        self.assert_raised(TooMany, 2, IfEarlier, *both, gridded[1], Missing())
        long = Else(tower(15), IfEarlier(RowTime(A), RowTime(B), Missing(), Missing()))
        self.assert_raised(TooMany, 3, Else, long, Else(Value(C), Value(D)))
        self.assert_raised(TooMany, 20, Else, long, Value(C))
        long = Else(tower(15), IfEarlier(Floor(Now()), Ceil(Now()), Missing(), Missing()))
        self.assert_raised(TooMany, 2, Else, long, gridded[1])
        self.assert_raised(TooMany, 20, Else, long, Value(Before("a", Floor(Now()))))
        look = LOOK
        for _ in range(3):
            look = Before("a", Floor(RowTime(look)))
        self.assert_raised(TooMany, 3, Value, look)
        self.assert_raised(TooMany, 2, Value, Before("a", Floor(RowTime(Before("a", Floor(Ceil(Now())))))))

    def test_the_deepest_look(self):
        self.assertEqual(Value(Before("a", deep(8))).looks[0].depth, 8)


if __name__ == "__main__":
    unittest.main()
