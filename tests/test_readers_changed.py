import unittest

from latestrows.errors import NoSuchPart, NotALook, NotAReader, NotATime, TooMany
from latestrows.readers import Constant, Else, IfEarlier, Missing, Value
from latestrows.times import After, Before, Ceil, Floor, Now, RowTime, Shift

from nested import LOOK, SOME_LOOKS, SOME_READERS, Maker, deep
from raising import RaisingCase
from wrong_parts import NOT_LOOKS, NOT_READERS, NOT_TIMES
from wrong_values import NOT_INTEGERS

A, B, C, D = [Before(feed, Now()) for feed in "abcd"]


def rebuilt(reader, index, other):
    """The reader with the other one in the place of the part, built anew from its innermost parts on."""
    if index == 0:
        return other
    in_second = index - 1 - len(reader.first.parts)
    first = reader.first if in_second >= 0 else rebuilt(reader.first, index - 1, other)
    second = reader.second if in_second < 0 else rebuilt(reader.second, in_second, other)
    if isinstance(reader, Else):
        return Else(first, second)
    return IfEarlier(reader.time, reader.other, first, second)


class ReplacedTest(RaisingCase):
    def test_each_index(self):
        maker = Maker(1)
        readers = SOME_READERS + [maker.reader(maker.looks(2), inner) for inner in (2, 4, 6, 8)]
        for reader in readers:
            text = str(reader)
            for index in range(len(reader.parts)):
                for other in (Missing(), Constant(99), Else(Constant(98), Constant(99))):
                    if len(reader.parts) + 2 <= 20:
                        changed = reader.replaced(index, other)
                        self.assertEqual(changed, rebuilt(reader, index, other))
                        self.assertEqual(changed.parts[index], other)
                self.assertEqual(reader.replaced(index, reader.parts[index]), reader)
            self.assertEqual(reader.replaced(other=Constant(1), index=0), Constant(1))
            self.assertEqual(str(reader), text)

    def test_equal_parts_are_not_all_replaced(self):
        one = Constant(1)
        reader = IfEarlier(Now(), Now(), one, Else(one, one))
        self.assertEqual(str(reader.replaced(1, Missing())),
                         "ifearlier(now, now, missing, else(constant(1), constant(1)))")
        self.assertEqual(str(reader.replaced(3, Missing())),
                         "ifearlier(now, now, constant(1), else(missing, constant(1)))")
        self.assertEqual(str(reader.replaced(4, Missing())),
                         "ifearlier(now, now, constant(1), else(constant(1), missing))")
        self.assertEqual(str(reader.replaced(2, Missing())), "ifearlier(now, now, constant(1), missing)")

    def test_no_such_part(self):
        for reader in SOME_READERS:
            many = len(reader.parts)
            for wrong in NOT_INTEGERS + [-1, many, many + 1, -many, 10 ** 60 - 1]:
                self.assert_raised(NoSuchPart, wrong, reader.replaced, wrong, Missing())
                self.assert_raised(NoSuchPart, wrong, reader.replaced, wrong, None)
                self.assert_raised(NoSuchPart, wrong, reader.replaced, other="x", index=wrong)

    def test_no_reader(self):
        for reader in SOME_READERS:
            for wrong in NOT_READERS:
                self.assert_raised(NotAReader, wrong, reader.replaced, 0, wrong)
                self.assert_raised(NotAReader, wrong, reader.replaced, len(reader.parts) - 1, wrong)

    def test_limits(self):
        reader = Else(Value(A), Else(Value(B), Value(C)))
        self.assertEqual(len(reader.replaced(1, Value(D)).looks), 3)
        self.assertEqual(len(reader.replaced(2, Value(D)).looks), 2)
        self.assert_raised(TooMany, 3, reader.replaced, 1, Value(D) | Value(A))
        many = Missing()
        for _ in range(9):
            many = Else(many, Missing())
        self.assertEqual(len(many.replaced(18, Constant(1)).parts), 19)
        self.assert_raised(TooMany, 20, many.replaced, 18, Missing() | Missing())
        self.assertEqual(len(many.replaced(1, many.parts[2]).parts), 17)

    def test_limits_of_the_whole_reader_only(self):
        # The innermost part that changes would have three grid times, but the whole reader has four looks.
        inner = Else(Value(Before("a", Floor(Now()))), Value(Before("b", Ceil(Now()))))
        reader = Else(Else(inner, Missing()), Value(C))
        other = Value(Before("a", Floor(Now() + 1)))
        self.assert_raised(TooMany, 3, reader.replaced, 5, other)
        self.assert_raised(TooMany, 2, reader.parts[1].replaced, 4, other)
        # It would have too many grid times, and a part that is not in it takes part in no limit.
        self.assert_raised(TooMany, 2, inner.replaced, 1, Value(Before("a", Floor(Ceil(Now() + 1)))))
        self.assertEqual(len(inner.replaced(1, Value(Before("a", Floor(Now() + 1)))).grid_times), 2)
        # The whole reader has four looks and too many parts.
        many = Value(A)
        for _ in range(9):
            many = Else(many, Value(A))
        self.assert_raised(TooMany, 3, many.replaced, 18, Else(Value(B), Else(Value(C), Value(D))))
        self.assert_raised(TooMany, 20, many.replaced, 18, Else(Value(B), Value(C)))

    def test_the_example_of_the_document(self):
        quote = Before("quote", Now(), within=10)
        reader = Value(quote) | (Value(Before("ref", RowTime(quote))) | Constant(-3))
        self.assertEqual(
            [str(reader.parts[2]), str(reader.parts[4]), len(reader.parts), len(reader.looks),
             str(reader.without_bound(quote)), str(reader.replaced(3, Missing()))],
            ["else(value(before(ref, time(before(quote, now, 10)))), constant(-3))", "constant(-3)", 5, 2,
             "else(value(before(quote, now)), else(value(before(ref, time(before(quote, now)))), constant(-3)))",
             "else(value(before(quote, now, 10)), else(missing, constant(-3)))"],
        )


class AtTest(RaisingCase):
    def test_each_class(self):
        time = RowTime(After("c", Now()))
        reader = IfEarlier(Now(), Floor(Now()), Else(Value(A), Constant(1)), Else(Missing(), Value(B)))
        self.assertEqual(
            str(reader.at(time)),
            "ifearlier(time(after(c, now)), floor(time(after(c, now))), "
            "else(value(before(a, time(after(c, now)))), constant(1)), "
            "else(missing, value(before(b, time(after(c, now))))))",
        )
        self.assertEqual(str(Value(A).at(time=Now() + 1)), "value(before(a, shift(now, 1)))")
        for reader in (Missing(), Constant(-7)):
            self.assertEqual(reader.at(time), reader)
        for reader in SOME_READERS:
            text = str(reader)
            self.assertEqual(reader.at(Now()), reader)
            self.assertEqual(str(reader), text)

    def test_no_time(self):
        for reader in SOME_READERS:
            for wrong in NOT_TIMES:
                self.assert_raised(NotATime, wrong, reader.at, wrong)
                self.assert_raised(NotATime, wrong, reader.at, time=wrong)

    def test_too_deep(self):
        for reader in (Value(LOOK), Else(Missing(), Value(LOOK)), IfEarlier(Now(), Now(), Missing(), Missing())):
            shifted = reader.at(Shift(Now(), 1))
            self.assertEqual(shifted.at(deep(7)), reader.at(deep(8)))
            self.assert_raised(TooMany, 8, shifted.at, deep(8))
        self.assert_raised(TooMany, 8, IfEarlier(Now(), Floor(Now()), Missing(), Missing()).at, deep(8))
        self.assert_raised(TooMany, 8, IfEarlier(Floor(Now()), Now(), Missing(), Missing()).at, deep(8))
        for reader in (Missing(), Constant(1), Else(Missing(), Constant(1))):
            self.assertEqual(reader.at(deep(8)), reader)

    def test_limits_of_the_whole_reader(self):
        three = Else(Value(A), Else(Value(B), Value(C)))
        self.assertEqual(len(three.at(Now() + 1).looks), 3)
        self.assert_raised(TooMany, 3, three.at, RowTime(D))
        pair = Else(Value(Before("a", Floor(Now()))), Value(Before("a", Ceil(Now()))))
        self.assertEqual(len(pair.at(Now() - 1).grid_times), 2)
        self.assert_raised(TooMany, 2, pair.at, Floor(Now() - 1))
        self.assertEqual(len(Value(A).at(Floor(Now())).grid_times), 1)

    def test_depth_ahead_of_the_other_limits(self):
        reader = Else(Value(A), Else(Value(B), Value(Before("c", deep(8)))))
        self.assert_raised(TooMany, 8, reader.at, RowTime(D))
        # Looks of the whole ahead of the grid times of a part.
        gridded = Else(Value(Before("a", Floor(Now()))), Value(Before("a", Ceil(Now()))))
        self.assert_raised(TooMany, 3, Else(gridded, Value(B)).at, RowTime(Before("d", Floor(Now() - 1))))
        self.assert_raised(TooMany, 2, gridded.at, RowTime(Before("d", Floor(Now() - 1))))


class WithoutBoundTest(RaisingCase):
    def test_every_place(self):
        look = Before("a", Now(), within=5)
        around = After("b", Floor(RowTime(look)), within=7, strict=True)
        reader = IfEarlier(RowTime(around), RowTime(look) + 1, Value(look), Else(Value(around), Value(look)))
        free = Before("a", Now())
        around_free = After("b", Floor(RowTime(free)), within=7, strict=True)
        self.assertEqual(
            reader.without_bound(look),
            IfEarlier(RowTime(around_free), RowTime(free) + 1, Value(free), Else(Value(around_free), Value(free))),
        )
        around_alone = After("b", Floor(RowTime(look)), strict=True)
        self.assertEqual(
            reader.without_bound(look=around),
            IfEarlier(RowTime(around_alone), RowTime(look) + 1, Value(look), Else(Value(around_alone), Value(look))),
        )
        self.assertEqual(str(Value(After("a", Now(), within=0, strict=True))
                             .without_bound(After("a", Now(), within=0, strict=True))), "value(after(a, now, strict))")

    def test_looks_that_become_equal(self):
        reader = Else(Value(Before("a", Now(), within=5)), Value(Before("a", Now())))
        changed = reader.without_bound(Before("a", Now(), within=5))
        self.assertEqual(str(changed), "else(value(before(a, now)), value(before(a, now)))")
        self.assertEqual(len(changed.looks), 1)

    def test_looks_that_are_not_there_or_have_no_bound(self):
        reader = Else(Value(Before("a", Now(), within=5)), Value(Before("b", Now())))
        others = [
            Before("b", Now()), Before("a", Now()), Before("a", Now(), within=4), Before("c", Now(), within=5),
            After("a", Now(), within=5), Before("a", Now(), within=5, strict=True), Before("a", Now() + 0, within=5),
            Before("b", Now(), within=5),
        ]
        for look in others:
            self.assertEqual(reader.without_bound(look), reader)
        for reader in (Missing(), Constant(1), IfEarlier(Now(), Floor(Ceil(Now())), Missing(), Constant(1))):
            for look in SOME_LOOKS:
                self.assertEqual(reader.without_bound(look), reader)

    def test_the_reader_stays_as_it_was(self):
        for reader in SOME_READERS:
            text = str(reader)
            for look in SOME_LOOKS:
                reader.without_bound(look)
            self.assertEqual(str(reader), text)

    def test_no_look(self):
        for reader in SOME_READERS:
            for wrong in NOT_LOOKS:
                self.assert_raised(NotALook, wrong, reader.without_bound, wrong)


if __name__ == "__main__":
    unittest.main()
