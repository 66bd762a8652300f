"""What is no claim is not shown by anything (point 23)."""

import unittest

from latestrows.checker import holds

from wrong_parts import NOT_READERS, NOT_SETTINGS, ODD
from wrong_values import NOT_INTEGERS, NOT_NAMES, EqualToAll, NoTruth

NOW = "value(before(a, now))"
NEAR, LOOK = "value(before(a, now, 5))", "before(a, now, 5)"
FAR = 10 ** 59

# Claims with certificates that show them.
SHOWN = [
    (("alike", "missing", "missing", "any"), ("end",)),
    (("unlike", NOW, "missing", "any"), ((("a", -7, 1),), 0)),
    (("age at most", NEAR, "a", 5, "any"), ("look", LOOK, ("clash", (("t", LOOK, 5), (LOOK, "t", -6))), ("end",))),
    (("age", NEAR, "a", 5, "any"), ((("a", 3, 1),), 8)),
    (("unchanged", "constant(1)", "a", 5, "any"), ("end",)),
    (("changed", NEAR, "a", -5, "any"), ((), 8, 1)),
]

SOME_CERTIFICATES = [certificate for _, certificate in SHOWN] + [((), 0), ((), 0, 0), (), None, True]

# Almost texts of readers, and texts of what is beyond a limit.
NOT_TEXTS = [
    "", " ", NEAR + " ", " " + NEAR, NEAR[:-1], NEAR + ")", NEAR.replace(", ", ","), NEAR.replace("5", "05"),
    NEAR.replace("5", "+5"), NEAR.replace("5", "-1"), NEAR.replace("5", "1000000001"), NEAR.replace("a,", "A,"),
    NEAR.replace("(a", "(abcdefghi"), "Missing", "missing\n", "constant(1_0)", "constant(True)", LOOK, "now", "any",
    "value(before(a, shift(now, 1000000001)))", "value(before(a, shift(now, --1)))",
    "value(before(a, shift(shift(shift(shift(shift(shift(shift(shift(now, 1), 1), 1), 1), 1), 1), 1), 1)))",
    "else(value(before(a, now)), else(value(before(b, now)), else(value(before(c, now)), value(before(d, now)))))",
    "value(before(a, floor(floor(floor(now)))))",
    "else(missing, " * 10 + "missing" + ")" * 10, "value(" * 50 + ")" * 50, "(" * 50,
]

NOT_SETTING_TEXTS = [
    "", "Any", "any; at a", "any ", "grid 5", "grid 0 0", "grid 61 0", "grid 5 5", "grid 5 -1", "grid 05 1", "grid 5 1;at a",
    "at a; grid 5 1", "apart a 0", "apart a 1000000001", "apart b 2; apart a 2", "apart a 2; apart a 3", "on a",
    "grid 5 1; on b; on a", "grid 5 1; on a; on a", "at A", "at a; at a", "at", "grid 5 1; ", "at a\n",
]


class EqualToAlike(EqualToAll):
    __hash__ = None


class ClaimsTest(unittest.TestCase):
    def assert_no_claim(self, claim):
        for certificate in SOME_CERTIFICATES:
            self.assertIs(holds(claim, certificate), False)

    def test_claims(self):
        for claim, certificate in SHOWN:
            self.assertIs(holds(claim, certificate), True)
            self.assertIs(holds(certificate=certificate, claim=claim), True)

    def test_values_that_are_no_tuples(self):
        for wrong in ODD + ["alike", EqualToAlike()]:
            self.assert_no_claim(wrong)
        for claim, certificate in SHOWN:
            for wrong in (list(claim), {claim: 1}, (claim,), str(claim), {*claim}, dict(enumerate(claim))):
                self.assertIs(holds(wrong, certificate), False)

    def test_words(self):
        for claim, certificate in SHOWN:
            for word in ["", "Alike", "alike ", "age  at most", "at most", "age at", "changes", "late", "older", "look",
                         b"alike", ("alike",), ["alike"], *ODD]:
                self.assertIs(holds((word, *claim[1:]), certificate), False)

    def test_lengths(self):
        for claim, certificate in SHOWN:
            for place in range(len(claim) + 1):
                self.assertIs(holds(claim[:place] + claim[place + 1:], certificate), place == len(claim))
                for more in ("any", "missing", "a", 5, None, ()):
                    self.assertIs(holds(claim[:place] + (more,) + claim[place:], certificate), False)
        self.assert_no_claim(())
        self.assert_no_claim(("alike",))

    def test_texts_of_readers(self):
        for claim, certificate in SHOWN:
            places = (1, 2) if len(claim) == 4 else (1,)
            for place in places:
                for wrong in NOT_TEXTS + [one for one in NOT_READERS if type(one) is not str] + NOT_NAMES:
                    self.assertIs(holds(claim[:place] + (wrong,) + claim[place + 1:], certificate), False)

    def test_a_sign_more_or_less(self):
        for claim, certificate in SHOWN:
            for place in range(len(claim)):
                text = claim[place]
                if type(text) is not str or text == "constant(1)":
                    continue
                shorter = [text[:at] + text[at + 1:] for at in range(len(text))]
                longer = [text[:at] + sign + text[at:] for at in range(len(text) + 1) for sign in " ,()A-;\n"]
                for wrong in shorter + longer:
                    self.assertIs(holds(claim[:place] + (wrong,) + claim[place + 1:], certificate), False, wrong)

    def test_feeds(self):
        for claim, certificate in SHOWN:
            if len(claim) == 5:
                for wrong in NOT_NAMES + [b"a", ("a",), ["a"]]:
                    self.assertIs(holds(claim[:2] + (wrong,) + claim[3:], certificate), False)

    def test_numbers(self):
        for claim, certificate in SHOWN:
            if len(claim) == 5:
                for wrong in NOT_INTEGERS + ["5", (5,), 5.0]:
                    self.assertIs(holds(claim[:3] + (wrong,) + claim[4:], certificate), False)
        # True is no integer, though Python holds it for equal to 1.
        self.assertIs(holds(("unchanged", "missing", "a", 1, "any"), ("end",)), True)
        self.assertIs(holds(("unchanged", "missing", "a", True, "any"), ("end",)), False)
        self.assertIs(holds(("age", NEAR, "a", 1, "any"), ((("a", 0, 1),), 1)), True)
        self.assertIs(holds(("age", NEAR, "a", True, "any"), ((("a", 0, 1),), 1)), False)
        for number in (FAR, -FAR):
            self.assertIs(holds(("unchanged", "missing", "a", number, "any"), ("end",)), True)
            self.assertIs(holds(("age at most", "missing", "a", number, "any"), ("end",)), True)

    def test_settings(self):
        for claim, certificate in SHOWN:
            wrong_settings = [one for one in NOT_SETTINGS if type(one) is not str]
            for wrong in NOT_SETTING_TEXTS + wrong_settings + ["missing", "a", NOW]:
                self.assertIs(holds((*claim[:-1], wrong), certificate), False)
            self.assertIs(holds((*claim[:-1], "grid 5 1; apart b 3; on b"), certificate), True)

    def test_settings_without_a_grid(self):
        gridded, ended = "ifearlier(ceil(now), now, missing, missing)", ("earlier", "ceil(now)", "now", ("end",), ("end",))
        for claim in (("alike", gridded, "missing"), ("alike", "missing", gridded), ("alike", gridded, gridded),
                      ("age at most", gridded, "a", 3)):
            self.assertIs(holds((*claim, "grid 5 1"), ended), True)
            self.assertIs(holds((*claim, "any"), ended), False)
            self.assertIs(holds((*claim, "apart a 2; at a"), ended), False)
        floored = "value(before(a, floor(now)))"
        for claim, certificate in ((("unlike", floored, "missing"), ((("a", -7, 1),), 0)),
                                   (("unlike", "missing", floored), ((("a", -7, 1),), 0)),
                                   (("age", floored, "a", 7), ((("a", -7, 1),), 0)),
                                   (("changed", floored, "a", -7), ((), 0, 1))):
            self.assertIs(holds((*claim, "grid 5 1"), certificate), True)
            self.assertIs(holds((*claim, "any"), certificate), False)

    def test_objects_that_say_that_they_equal_everything(self):
        for claim, certificate in SHOWN:
            for odd in (EqualToAll(), NoTruth(), EqualToAlike()):
                for place in range(len(claim)):
                    self.assertIs(holds(claim[:place] + (odd,) + claim[place + 1:], certificate), False)
                self.assertIs(holds(claim, odd), False)
                for place in range(len(certificate)):
                    wrong = certificate[:place] + (odd,) + certificate[place + 1:]
                    self.assertIs(holds(claim, wrong), False)


if __name__ == "__main__":
    unittest.main()
