import itertools
import unittest

from latestrows.errors import InvalidText
from latestrows.readers import Constant, Else, IfEarlier, Missing, Value
from latestrows.texts import read_look, read_reader, read_time
from latestrows.times import After, Before, Floor, Now, RowTime, Shift

from nested import LOOK, SOME_LOOKS, SOME_READERS, SOME_TIMES, Maker, deep
from raising import RaisingCase
from wrong_values import INTEGERS, NAMES, EqualToAll, NoTruth

WORDS = ["now", "shift", "floor", "ceil", "time", "before", "after", "strict", "value", "constant", "missing", "else"]
READS = (read_time, read_look, read_reader)


def else_tower(parts, leaf="missing"):
    text = leaf
    for _ in range(parts // 2):
        text = f"else({text}, {leaf})"
    return text


class ReadBackTest(unittest.TestCase):
    def assert_read_back(self, read, thing):
        again = read(str(thing))
        self.assertEqual(again, thing)
        self.assertIs(type(again), type(thing))
        self.assertEqual(repr(again), repr(thing))
        self.assertEqual(read(text=str(thing)), thing)

    def test_some_of_each_class(self):
        for read, things in zip(READS, (SOME_TIMES, SOME_LOOKS, SOME_READERS)):
            for thing in things:
                self.assert_read_back(read, thing)

    def test_looks_with_and_without_each_part(self):
        for made, feed, within, strict in itertools.product(
            (Before, After), NAMES, (None, 0, 1, 10, 1000000000), (True, False)
        ):
            look = made(feed, Shift(Now(), 1), within=within, strict=strict)
            self.assert_read_back(read_look, look)
            again = read_look(str(look))
            self.assertEqual((again.feed, again.within, again.time), (feed, within, Shift(Now(), 1)))
            self.assertIs(again.strict, strict)

    def test_integers(self):
        for number in INTEGERS:
            self.assert_read_back(read_reader, Constant(number))
            self.assertEqual(read_reader(f"constant({number})").number, number)
        for by in (0, 9, 10, -1, -10, 1000000000, -1000000000):
            self.assertEqual(read_time(f"shift(now, {by})").by, by)

    def test_feeds_that_are_called_like_words(self):
        for word in WORDS:
            inner = Before(word, Now())
            for look in (inner, After(word, Now(), strict=True), Before(word, RowTime(inner))):
                self.assert_read_back(read_look, look)
                self.assert_read_back(read_time, RowTime(look))
                self.assert_read_back(read_reader, Value(look))
        self.assertEqual(read_look("before(now, now)").feed, "now")
        self.assertEqual(read_look("before(strict, now, strict)").feed, "strict")
        self.assertEqual(read_look("after(before, time(before(after, now)), 5, strict)").feed, "before")

    def test_at_the_limits(self):
        self.assert_read_back(read_time, deep(8))
        three = Else(Value(Before("a", Now())), Else(Value(Before("b", Now())), Value(Before("c", Now()))))
        self.assert_read_back(read_reader, three)
        self.assertEqual(len(read_reader(else_tower(19)).parts), 19)
        look = LOOK
        for _ in range(7):
            look = After("abcdefgh", RowTime(look), within=1000000000, strict=True)
        self.assert_read_back(read_look, look)

    def test_many_at_random(self):
        for seed in range(300):
            maker = Maker(seed)
            looks = maker.looks(seed % 3 + 1)
            self.assert_read_back(read_reader, maker.reader(looks, seed % 7))
            self.assert_read_back(read_look, looks[-1])
            self.assert_read_back(read_time, maker.time(looks))

    def test_the_example_of_the_document(self):
        text = (
            "else(value(before(a, floor(now), 10)), "
            "ifearlier(now, shift(time(after(b, now)), -5), constant(0), missing))"
        )
        reader = Else(
            Value(Before("a", Floor(Now()), within=10)),
            IfEarlier(Now(), Shift(RowTime(After("b", Now())), -5), Constant(0), Missing()),
        )
        self.assertEqual(read_reader(text), reader)
        self.assertEqual(str(read_reader(text)), text)


class InvalidTextsTest(RaisingCase):
    def assert_invalid(self, value, reads=READS):
        for read in reads:
            self.assert_raised(InvalidText, value, read, value)
            self.assert_raised(InvalidText, value, read, text=value)

    def test_values_that_are_no_strings(self):
        for value in [None, True, False, 0, 1.5, b"now", b"missing", (), ("now",), ["now"], {"now"}, {}, object(), str,
                      EqualToAll(), NoTruth(), *SOME_TIMES, *SOME_LOOKS, *SOME_READERS]:
            self.assert_invalid(value)

    def test_texts_of_another_kind(self):
        for things, kind in ((SOME_TIMES, read_time), (SOME_LOOKS, read_look), (SOME_READERS, read_reader)):
            for thing in things:
                self.assert_invalid(str(thing), [read for read in READS if read is not kind])
                self.assert_invalid(repr(thing))
        for text in ("floor(before(a, now))", "time(now)", "shift(missing, 1)", "floor(value(before(a, now)))"):
            self.assert_invalid(text)
        for text in ("before(a, before(a, now))", "before(a, missing)", "before(now, a)", "after(a, 5)"):
            self.assert_invalid(text)
        for text in ("value(now)", "value(time(before(a, now)))", "value(missing)", "else(now, missing)",
                     "else(missing, before(a, now))", "ifearlier(missing, now, missing, missing)",
                     "ifearlier(now, before(a, now), missing, missing)", "ifearlier(now, now, now, missing)",
                     "constant(now)", "constant(missing)", "constant(constant(1))"):
            self.assert_invalid(text)

    def test_each_sign_left_out_put_in_or_exchanged(self):
        texts = [
            (read_time, "shift(floor(now), -15)"),
            (read_time, "time(before(a, ceil(now), 10, strict))"),
            (read_look, "before(ab0, shift(now, 5), 10, strict)"),
            (read_look, "after(now, now, strict)"),
            (read_reader, "else(value(before(a, now, 3)), constant(-20))"),
            (read_reader, "ifearlier(now, floor(now), missing, constant(7))"),
        ]
        for read, text in texts:
            read(text)
            for at in range(len(text) + 1):
                changed = {text[:at] + text[at + 1:]}
                for sign in " ,()-+_.a0sS\n":
                    changed.add(text[:at] + sign + text[at:])
                    changed.add(text[:at] + sign + text[at + 1:])
                for other in sorted(changed - {text}):
                    self.assert_other_or_invalid(read, other)

    def assert_other_or_invalid(self, read, text):
        """The text is no text at all, or just that of what is read (as with another feed or integer)."""
        try:
            thing = read(text)
        except InvalidText as error:
            self.assertIs(error.value, text)
        else:
            self.assertEqual(str(thing), text)
            self.assertNotRegex(text, r"[A-Z+._\n]|,[^ ]|[^,] |  |^ | $|-0|[ (-]0[0-9]|--|\(\)")

    def test_spaces_and_newlines(self):
        for text in ("", " ", "\n", " now", "now ", "now\n", "\nnow", "n ow", "shift(now,5)", "shift(now,  5)",
                     "shift( now, 5)", "shift(now , 5)", "shift(now, 5 )", "shift (now, 5)", "shift(now, 5) ",
                     "shift(now, 5)\n", "shift(now,\n5)", "shift(now, - 5)", "floor( now)", "floor(now\n)"):
            self.assert_invalid(text)
        for text in ("before(a,now)", "before(a, now )", "before( a, now)", "before(a , now)", "before(a, now,10)",
                     "before(a, now, 10,strict)", "before(a, now)\n", "before(a, now, strict )", "before (a, now)"):
            self.assert_invalid(text)
        for text in ("missing\n", " missing", "missing ", "constant( 5)", "constant(5 )", "else(missing,missing)",
                     "value( before(a, now))", "ifearlier(now,now, missing, missing)", "else(missing, missing)\n"):
            self.assert_invalid(text)

    def test_brackets_and_commas(self):
        for text in ("now()", "now(now)", "now)", "(now)", "(", ")", "()", ",", ", ", "floor", "floor()", "floor(now",
                     "floor(now))", "floor((now))", "floor(now, now)", "floor(now,)", "floor(, now)", "floor(now)now",
                     "shift(now)", "shift(now, 5", "shift(now, 5, 5)", "shift(now, (5))", "shift(5, now)", "time()",
                     "shift(now, 5())", "time(before(a, now)", "time(before(a, now)))"):
            self.assert_invalid(text)
        for text in ("before", "before()", "before(a)", "before(now)", "before(a, now", "before(a, now))", "(a, now)",
                     "before(a(), now)", "before(, now)", "before((a), now)", "before(a, now())", "before(a, now, )",
                     "before(a, now, 5, 5)", "before(a, now, strict, strict)", "before(a, now, strict, 5)",
                     "before(a, now, 5, strict, strict)", "before(a, now, strict())", "before(a, now, 5(), strict)",
                     "before(a, now, None)", "before(a, now, loose)", "before(a, strict)", "before(a, 5, strict)",
                     "before(a, now, 5, loose)", "before(a, now, False)", "between(a, now)"):
            self.assert_invalid(text)
        for text in ("missing()", "missing(missing)", "value", "value()", "value(before(a, now)", "constant",
                     "constant()", "constant(1, 2)", "constant((1))", "constant(1())", "else(missing)",
                     "else(missing, missing", "else(missing, missing, missing)", "else()",
                     "ifearlier(now, now, missing)", "ifearlier(now, now, missing, missing, missing)", "5", "a",
                     "missing, missing", "value(before(a, now)) "):
            self.assert_invalid(text)

    def test_capital_letters_and_other_words(self):
        for text in ("Now", "NOW", "Shift(now, 5)", "shift(Now, 5)", "Floor(now)", "round(now)", "later", "none"):
            self.assert_invalid(text)
        for text in ("Before(a, now)", "before(A, now)", "before(a, Now)", "before(a, now, Strict)", "at(a, now)"):
            self.assert_invalid(text)
        for text in ("Missing", "Value(before(a, now))", "Constant(1)", "Else(missing, missing)",
                     "or(missing, missing)", "IfEarlier(now, now, missing, missing)", "None", "True",
                     "ifEarlier(now, now, missing, missing)"):
            self.assert_invalid(text)

    def test_integers(self):
        wrong = ["+5", "05", "00", "-0", "-05", "--5", "5-", "- 5", "5.0", "5e1", "0x5", "5_0", "1,000", "", "-",
                 "five", "\u0665", "\u00b2", "True", "5 5", "a"]
        for word in wrong:
            self.assert_invalid(f"shift(now, {word})")
            self.assert_invalid(f"before(a, now, {word})")
            self.assert_invalid(f"after(a, now, {word}, strict)")
            self.assert_invalid(f"constant({word})")

    def test_feeds(self):
        for name in ("abcdefghi", "1a", "5", "", "A", "aB", "a_b", "a-b", "a b", "-5", "\u00e9", "a.b"):
            self.assert_invalid(f"before({name}, now)")
            self.assert_invalid(f"time(after({name}, now, 5))")
            self.assert_invalid(f"value(after({name}, now, strict))")
        self.assertEqual(read_look("before(abcdefgh, now)").feed, "abcdefgh")

    def test_beyond_a_limit(self):
        nine = f"floor({deep(8)})"
        self.assert_invalid(nine)
        self.assert_invalid(f"before(a, {nine})")
        self.assert_invalid(f"time(before(a, {deep(8)}))")
        self.assert_invalid(f"value(before(a, {nine}))")
        self.assert_invalid(f"ifearlier(now, {nine}, missing, missing)")
        looks = [f"value(before({feed}, now))" for feed in "abcd"]
        self.assert_invalid(f"else(else({looks[0]}, {looks[1]}), else({looks[2]}, {looks[3]}))")
        chain = "before(a, time(before(a, time(before(a, time(before(a, now)))))))"
        self.assertEqual(len(read_look(chain).looks), 4)
        self.assert_invalid(f"value({chain})")
        self.assert_invalid("value(before(a, floor(ceil(floor(now)))))")
        self.assertEqual(len(read_time("floor(ceil(floor(now)))").grid_times), 3)
        self.assert_invalid("ifearlier(floor(now), ceil(now), value(before(a, floor(shift(now, 1)))), missing)")
        self.assert_invalid(else_tower(21))
        for by in (1000000001, -1000000001, 10 ** 60, -(10 ** 60)):
            self.assert_invalid(f"shift(now, {by})")
        for within in (1000000001, -1, 10 ** 60):
            self.assert_invalid(f"before(a, now, {within})")
            self.assert_invalid(f"after(a, now, {within}, strict)")

    def test_many_brackets(self):
        for many in (9, 20, 49, 50, 400, 3000):
            self.assert_invalid("(" * many)
            self.assert_invalid(")" * many)
            self.assert_invalid("(" * many + ")" * many)
        for many in (10, 20, 49, 400):
            self.assert_invalid("floor(" * many + "now" + ")" * many)
            self.assert_invalid("else(" * many + "missing" + ", missing)" * many)
            self.assert_invalid("floor(" * many)
            self.assert_invalid("else(missing, " * many + "missing" + ")" * many)
        self.assert_invalid("," * 4000)
        self.assert_invalid("a" * 4000)
        self.assert_invalid("floor(now, " + ", ".join(["now"] * 700) + ")")

    def test_other_signs(self):
        for text in ("now\u00a0", "n\u00f6w", "now\t", "now\r", "now\x00", "shift(now,\t5)", "before(a\n, now)",
                     "before(a, now)\x00", "missing\u2028", "\u04a0"):
            self.assert_invalid(text)


if __name__ == "__main__":
    unittest.main()
