import unittest
import unittest.mock

from latestrows.ages import age_range, example_aged
from latestrows.certificates import certify_age, certify_alike, certify_late
from latestrows.changes import change_at, change_range
from latestrows.checker import holds
from latestrows.comparing import alike
from latestrows.errors import (
    InvalidName, InvalidNumber, NeverChanged, NeverRead, NoGrid, NotAReader, NotASetting, TooMany,
)
from latestrows.readers import Constant, Missing
from latestrows.settings import Setting
from latestrows.texts import read_reader
from latestrows.times import Now

from nested import SOME_READERS, Maker
from plain_trees import plain_closes
from raising import RaisingCase
from test_ages import NEVER as NEVER_READ
from test_ages import RANGES as AGES
from test_changes import NEVER as NEVER_CHANGED
from test_changes import RANGES as CHANGES
from test_comparing import PAIRS
from wrong_parts import NOT_READERS, NOT_SETTINGS
from wrong_values import NOT_INTEGERS, NOT_NAMES

FAR = 10 ** 59
NEAR, NOW = "value(before(a, now, 5))", "value(before(a, now))"
OPPOSITE = {"alike": "unlike", "age at most": "age", "unchanged": "changed"}
OPPOSITE.update({OPPOSITE[word]: word for word in list(OPPOSITE)})

SETTINGS = [
    "any", "apart a 2", "at a", "at b", "apart a 3; at a", "grid 2 0", "grid 3 1", "grid 2 1; on a",
    "grid 4 1; on a; at a", "grid 2 0; apart a 3; at a", "grid 5 0; apart a 7; on a; on b; at b",
]


class CertificatesCase(RaisingCase):
    def assert_certified(self, pair, again):
        """The checker accepts the certificate for the claim, and not for the opposite one; equal calls are equal."""
        self.assertIs(type(pair), tuple)
        claim, certificate = pair
        self.assertIs(holds(claim, certificate), True, claim)
        self.assertIs(holds((OPPOSITE[claim[0]], *claim[1:]), certificate), False)
        self.assertEqual(pair, again)
        if claim[0] in ("alike", "age at most", "unchanged"):
            self.assertIs(plain_closes(claim, certificate), True)

    def assert_rows(self, certificate, looks, setting):
        self.assertLessEqual(len(certificate[0]), looks + (1 if setting.at_rows is not None else 0))

    def assert_alike(self, reader, other, setting):
        claim, certificate = certify_alike(reader, other, setting)
        self.assert_certified((claim, certificate), certify_alike(reader, other, setting))
        word = "alike" if alike(reader, other, setting) else "unlike"
        self.assertEqual(claim, (word, str(reader), str(other), str(setting)))
        if word == "unlike":
            self.assert_rows(certificate, len({str(look) for look in reader.looks + other.looks}), setting)
        return claim, certificate

    def assert_age(self, reader, feed, number, setting):
        claim, certificate = certify_age(reader, feed, number, setting)
        self.assert_certified((claim, certificate), certify_age(reader, feed, number, setting))
        self.assertEqual((claim[1], claim[2], claim[4]), (str(reader), feed, str(setting)))
        oldest = self.greatest(age_range, NeverRead, reader, feed, setting)
        self.assert_number(claim, ("age at most", "age"), number, oldest)
        if claim[0] == "age":
            self.assert_rows(certificate, len(reader.looks), setting)
            self.assert_least(example_aged, reader, feed, number, claim[3], setting)
        return claim, certificate

    def assert_late(self, reader, feed, number, setting):
        claim, certificate = certify_late(reader, feed, number, setting)
        self.assert_certified((claim, certificate), certify_late(reader, feed, number, setting))
        self.assertEqual((claim[1], claim[2], claim[4]), (str(reader), feed, str(setting)))
        farthest = self.greatest(change_range, NeverChanged, reader, feed, setting)
        self.assert_number(claim, ("unchanged", "changed"), number, farthest)
        if claim[0] == "changed":
            self.assert_rows(certificate, 2 * len(reader.looks), setting)
            self.assert_least(change_at, reader, feed, number, claim[3], setting)
        return claim, certificate

    def greatest(self, call, never, reader, feed, setting):
        """The greatest number that occurs; None if there is none, FAR times FAR if there is no greatest one."""
        try:
            greatest = call(reader, feed, setting)[1]
        except never:
            return None
        return FAR * FAR if greatest is None else greatest

    def assert_number(self, claim, words, number, greatest):
        if greatest is None or greatest <= number:
            self.assertEqual((claim[0], claim[3]), (words[0], number))
        else:
            self.assertEqual(claim[0], words[1])
            self.assertTrue(number < claim[3] <= greatest)

    def assert_least(self, call, reader, feed, number, found, setting):
        """Between the number and the one that was found there is none; only those next to the two are tried."""
        for one in {*range(number + 1, number + 11), *range(found - 10, found)}:
            if number < one < found:
                self.assertIs(call(reader, feed, one, setting), None)


class AlikeTest(CertificatesCase):
    def test_pairs(self):
        near, both = read_reader(NEAR), read_reader(f"else(value(before(a, now, 2)), {NEAR})")
        self.assertEqual(self.assert_alike(near, both, Setting())[0][0], "alike")
        self.assertEqual(self.assert_alike(near, read_reader(NOW), Setting())[0][0], "unlike")
        self.assertEqual(self.assert_alike(near, read_reader(NOW), Setting(at_rows="a"))[0][0], "alike")
        plain, floored = read_reader(NOW), read_reader("value(before(a, floor(now)))")
        self.assertEqual(self.assert_alike(plain, floored, Setting(grid=(60, 7)))[0][0], "unlike")
        self.assertEqual(self.assert_alike(plain, floored, Setting(grid=(60, 7), on_grid=("a",)))[0][0], "alike")
        for reader in SOME_READERS:
            self.assertEqual(self.assert_alike(reader, reader, Setting())[0][0], "alike")
            self.assertEqual(self.assert_alike(reader, read_reader(f"else({reader}, constant(9))"), Setting())[0][0],
                             "alike" if alike(reader, reader | Constant(9), Setting()) else "unlike")

    def test_at_random(self):
        for number, text in enumerate(SETTINGS):
            setting = Setting.read(text)
            for seed in range(number * 15, (number + 1) * 15):
                maker = Maker(seed, feeds="a" if seed % 3 == 0 else "ab", grid=setting.grid is not None)
                looks = maker.looks(seed % 3 + 1)
                reader = maker.reader(looks, seed % 6)
                self.assert_alike(reader, maker.reader(looks, seed % 4), setting)
                self.assert_alike(reader, maker.reader(maker.looks(2), 2), setting)
                try:
                    self.assertEqual(self.assert_alike(reader, reader.at(Now() + 0), setting)[0][0], "alike")
                except TooMany:
                    pass


    def test_each_pair_that_is_compared(self):
        for first, second, alike_under, unlike_under in PAIRS:
            readers = read_reader(first), read_reader(second)
            for word, texts in (("alike", alike_under), ("unlike", unlike_under)):
                for text in texts:
                    with self.subTest(first=first, second=second, setting=text):
                        setting = Setting.read(text)
                        self.assertEqual(self.assert_alike(*readers, setting)[0][0], word)
                        self.assertEqual(self.assert_alike(*readers[::-1], setting)[0][0], word)

    def test_rows_that_are_found_in_another_order(self):
        """The outcomes are rows of which the second one was found first."""
        inner = read_reader("value(before(a, time(before(a, now))))")
        for text in ("any", "apart a 2", "apart a 2; at a", "grid 3 1; apart a 5; on a"):
            for pair in ((inner, read_reader(NOW)), (read_reader(NOW), inner)):
                self.assertEqual(self.assert_alike(*pair, Setting.read(text))[0][0], "alike")


class AgeTest(CertificatesCase):
    def test_each_range(self):
        for text, feed, setting, (_, oldest) in AGES:
            reader, known = read_reader(text), Setting.read(setting)
            with self.subTest(text=text, feed=feed, setting=setting):
                if oldest is not None:
                    claim, _ = self.assert_age(reader, feed, oldest, known)
                    self.assertEqual(claim[0], "age at most")
                    claim, _ = self.assert_age(reader, feed, oldest - 1, known)
                    self.assertEqual((claim[0], claim[3]), ("age", oldest))
                self.assert_age(reader, feed, -FAR, known)
        for text, feed, setting in NEVER_READ:
            with self.subTest(text=text, feed=feed, setting=setting):
                for number in (-FAR, 0, FAR):
                    claim, _ = self.assert_age(read_reader(text), feed, number, Setting.read(setting))
                    self.assertEqual((claim[0], claim[3]), ("age at most", number))

    def test_numbers(self):
        reader = read_reader("else(value(before(a, now, 2)), value(before(a, shift(now, -5), 2)))")
        for number in (-FAR, -9, -1, 0, 1, 2, 3, 4, 5, 6, 7, 8, FAR):
            claim, _ = self.assert_age(reader, "a", number, Setting())
            expected = [age for age in (0, 1, 2, 5, 6, 7) if age > number]
            self.assertEqual((claim[0], claim[3]), ("age", expected[0]) if expected else ("age at most", number))
            self.assertEqual(self.assert_age(reader, "b", number, Setting())[0][0], "age at most")

    def test_without_a_bound(self):
        for number in (-FAR, -3, 0, 17, FAR):
            claim, _ = self.assert_age(read_reader(NOW), "a", number, Setting())
            self.assertEqual((claim[0], claim[3]), ("age", max(0, number + 1)))
            claim, _ = self.assert_age(read_reader("value(after(a, now))"), "a", number, Setting())
            self.assertEqual((claim[0], claim[3]), ("age", number + 1) if number < 0 else ("age at most", number))
            setting = Setting(grid=(7, 3), on_grid=("a", "b"), at_rows="b")
            claim, _ = self.assert_age(read_reader(NOW), "a", number, setting)
            self.assertEqual((claim[0], claim[3]), ("age", max(0, (number // 7 + 1) * 7)))

    def test_at_random(self):
        for number, text in enumerate(SETTINGS):
            setting = Setting.read(text)
            for seed in range(number * 15, (number + 1) * 15):
                maker = Maker(seed, feeds="a" if seed % 3 == 0 else "ab", grid=setting.grid is not None)
                reader = maker.reader(maker.looks(seed % 3 + 1), seed % 6)
                for feed in "ab":
                    for most in (-2, 0, 3, FAR):
                        self.assert_age(reader, feed, most, setting)


class LateTest(CertificatesCase):
    def test_each_range(self):
        for text, feed, setting, (_, farthest) in CHANGES:
            reader, known = read_reader(text), Setting.read(setting)
            with self.subTest(text=text, feed=feed, setting=setting):
                if farthest is not None:
                    claim, _ = self.assert_late(reader, feed, farthest, known)
                    self.assertEqual(claim[0], "unchanged")
                    claim, _ = self.assert_late(reader, feed, farthest - 1, known)
                    self.assertEqual((claim[0], claim[3]), ("changed", farthest))
                self.assert_late(reader, feed, -FAR, known)
        for text, feed, setting in NEVER_CHANGED:
            with self.subTest(text=text, feed=feed, setting=setting):
                for number in (-FAR, 0, FAR):
                    claim, _ = self.assert_late(read_reader(text), feed, number, Setting.read(setting))
                    self.assertEqual((claim[0], claim[3]), ("unchanged", number))

    def test_numbers(self):
        reader = read_reader("else(value(before(a, now, 2)), value(before(a, shift(now, -5), 2)))")
        for number in (-FAR, -9, -8, -7, -6, -5, -4, -3, -2, -1, 0, 1, FAR):
            claim, _ = self.assert_late(reader, "a", number, Setting())
            expected = [distance for distance in (-7, -6, -5, -2, -1, 0) if distance > number]
            self.assertEqual((claim[0], claim[3]), ("changed", expected[0]) if expected else ("unchanged", number))
            self.assertEqual(self.assert_late(reader, "b", number, Setting())[0][0], "unchanged")

    def test_without_a_bound(self):
        for number in (-FAR, -3, 0, 17, FAR):
            claim, _ = self.assert_late(read_reader("value(after(a, now))"), "a", number, Setting())
            self.assertEqual((claim[0], claim[3]), ("changed", max(0, number + 1)))
            claim, _ = self.assert_late(read_reader(NOW), "a", number, Setting())
            self.assertEqual((claim[0], claim[3]), ("changed", number + 1) if number < 0 else ("unchanged", number))
            setting = Setting(grid=(7, 3), on_grid=("a", "b"), at_rows="b")
            claim, _ = self.assert_late(read_reader("value(after(a, now))"), "a", number, setting)
            self.assertEqual((claim[0], claim[3]), ("changed", max(0, (number // 7 + 1) * 7)))

    def test_the_late_row_and_the_row_at_the_time(self):
        reader = read_reader("value(before(a, now, 9, strict))")
        for number, expected in ((-12, -9), (-9, -8), (-5, -4), (-4, None), (0, None)):
            claim, _ = self.assert_late(reader, "a", number, Setting(apart=(("a", 4),), at_rows="a"))
            self.assertEqual((claim[0], claim[3]), ("unchanged", number) if expected is None else ("changed", expected))

    def test_at_random(self):
        for number, text in enumerate(SETTINGS):
            setting = Setting.read(text)
            for seed in range(number * 15, (number + 1) * 15):
                maker = Maker(seed, feeds="a" if seed % 3 == 0 else "ab", grid=setting.grid is not None)
                reader = maker.reader(maker.looks(seed % 3 + 1), seed % 6)
                for feed in "ab":
                    for most in (-2, 0, 3, FAR):
                        self.assert_late(reader, feed, most, setting)


class ManyLooksTest(CertificatesCase):
    def test_in_time(self):
        """Three looks and two grid times, with great bounds."""
        for seed in range(40):
            maker = Maker(seed, feeds="a" if seed % 2 else "ab", numbers=(-1000000000, -61, 59, 1000000000),
                          bounds=(0, 59, 10 ** 9))
            setting = Setting(grid=(60, seed), apart=(("a", 1 + seed * 17),), at_rows="a" if seed % 4 > 1 else None)
            looks = maker.looks(3, depth=4)
            reader = maker.reader(looks, 8)
            self.assert_alike(reader, maker.reader(looks, 8), setting)
            self.assert_alike(reader, maker.reader(maker.looks(3, depth=4), 8), setting)
            self.assert_alike(reader, reader.at(read_reader("value(before(a, shift(now, 0)))").look.time), setting)
            for number in (-10 ** 9, 0, 10 ** 10):
                self.assert_age(reader, "a", number, setting)
                self.assert_late(reader, "a", number, setting)

    def test_looks_of_looks_that_are_compared(self):
        first = "before(a, floor(now), 1000000)"
        second = f"after(a, shift(time({first}), 30), 1000000000)"
        third = f"before(a, ceil(time({second})), 500, strict)"
        reader = read_reader(
            f"else(ifearlier(time({first}), time({second}), ifearlier(time({second}), time({third}), value({first}), "
            f"value({third})), ifearlier(time({first}), time({third}), else(value({second}), constant(1)), missing)), "
            f"else(value({third}), else(value({second}), value({first}))))"
        )
        for text in ("grid 60 7", "grid 60 7; apart a 20", "grid 10 3; at a", "grid 10 3; on a",
                     "grid 60 7; apart a 45; on a; at a"):
            with self.subTest(setting=text):
                setting = Setting.read(text)
                same = read_reader(str(reader).replace("before(a, floor(now)", "before(a, floor(shift(now, 0))"))
                self.assertEqual(self.assert_alike(reader, same, setting)[0][0], "alike")
                for number in (-10 ** 9, 0, 500, 10 ** 10):
                    self.assert_age(reader, "a", number, setting)
                    self.assert_late(reader, "a", number, setting)


class TriedTest(CertificatesCase):
    def test_only_by_trial(self):
        """What has no other way left is put into trees first; they close without that, too, if longer."""
        with unittest.mock.patch("latestrows.proofs._forced_choice", lambda _: None):
            for first, second, alike_under, _ in PAIRS:
                for text in alike_under:
                    self.assert_alike(read_reader(first), read_reader(second), Setting.read(text))
            for seed in range(40):
                setting = Setting.read(SETTINGS[seed % len(SETTINGS)])
                maker = Maker(seed, feeds="a" if seed % 3 == 0 else "ab", grid=setting.grid is not None)
                reader = maker.reader(maker.looks(seed % 3 + 1), seed % 6)
                for number in (-2, 3, FAR):
                    self.assert_age(reader, "a", number, setting)
                    self.assert_late(reader, "a", number, setting)


class CallsTest(CertificatesCase):
    def test_by_name(self):
        reader, setting = read_reader(NEAR), Setting()
        self.assert_certified(certify_alike(setting=setting, other=Missing(), reader=reader),
                              certify_alike(reader, Missing(), setting))
        self.assert_certified(certify_age(setting=setting, number=3, feed="a", reader=reader),
                              certify_age(reader, "a", 3, setting))
        self.assert_certified(certify_late(setting=setting, number=3, feed="a", reader=reader),
                              certify_late(reader, "a", 3, setting))

    def test_no_reader(self):
        for wrong in NOT_READERS:
            self.assert_raised(NotAReader, wrong, certify_alike, wrong, Missing(), Setting())
            self.assert_raised(NotAReader, wrong, certify_alike, Missing(), wrong, Setting())
            self.assert_raised(NotAReader, wrong, certify_alike, wrong, None, None)
            self.assert_raised(NotAReader, wrong, certify_alike, Missing(), wrong, None)
            for call in (certify_age, certify_late):
                self.assert_raised(NotAReader, wrong, call, wrong, "a", 0, Setting())
                self.assert_raised(NotAReader, wrong, call, wrong, "A", None, None)

    def test_no_feed_and_no_number(self):
        gridded = read_reader("value(before(a, floor(now)))")
        for call in (certify_age, certify_late):
            for wrong in NOT_NAMES:
                self.assert_raised(InvalidName, wrong, call, Missing(), wrong, 0, Setting())
                self.assert_raised(InvalidName, wrong, call, gridded, wrong, None, None)
            for wrong in NOT_INTEGERS:
                self.assert_raised(InvalidNumber, wrong, call, Missing(), "a", wrong, Setting())
                self.assert_raised(InvalidNumber, wrong, call, gridded, "a", wrong, None)

    def test_no_setting_and_no_grid(self):
        gridded = read_reader("value(before(a, floor(now)))")
        for wrong in NOT_SETTINGS:
            self.assert_raised(NotASetting, wrong, certify_alike, gridded, Missing(), wrong)
            self.assert_raised(NotASetting, wrong, certify_age, gridded, "a", 0, wrong)
            self.assert_raised(NotASetting, wrong, certify_late, Missing(), "a", 0, wrong)
        for pair in ((gridded, Missing()), (Missing(), gridded), (gridded, gridded)):
            self.assert_bare(NoGrid, certify_alike, *pair, Setting())
        self.assert_bare(NoGrid, certify_age, gridded, "b", 0, Setting(at_rows="a"))
        self.assert_bare(NoGrid, certify_late, gridded, "b", 0, Setting(at_rows="a"))

    def test_the_example_of_the_document(self):
        reader = read_reader("value(before(a, now, 5))")
        claim, tree = certify_alike(reader, reader | read_reader("value(before(a, now, 2))"), Setting())
        second, shown = certify_age(reader, "a", 1, Setting())
        self.assertEqual(
            [claim[0], holds(claim, tree), second, holds(second, shown), holds(claim, shown)],
            ["alike", True, ("age", "value(before(a, now, 5))", "a", 2, "any"), True, False],
        )

    def test_the_example_of_the_checker(self):
        claim, look = ("age at most", "value(before(a, now, 5))", "a", 5, "any"), "before(a, now, 5)"
        chain = (("t", look, 5), (look, "t", -6))
        unlike = ("unlike", "value(before(a, now))", "missing", "any")
        self.assertEqual(
            [holds(claim, ("look", look, ("clash", chain), ("end",))), holds(claim, ("look", look, ("end",), ("end",))),
             holds(unlike, ((("a", -7, 1),), 0)), holds(unlike, ((("a", 7, 1),), 0)),
             holds(("alike", "missing", "missing", "any"), ("end",))],
            [True, False, True, False, True],
        )


if __name__ == "__main__":
    unittest.main()
