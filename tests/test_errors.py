import unittest

from latestrows import errors

BASES = {
    "LatestError": ValueError,
    "StateError": LookupError,
    "RuleError": RuntimeError,
    "LimitError": ArithmeticError,
}

# For each base class its errors, and for each error its field.
ERRORS = {
    "LatestError": {
        "InvalidName": "value",
        "InvalidTime": "value",
        "InvalidNumber": "value",
        "InvalidWithin": "value",
        "InvalidStrict": "value",
        "InvalidText": "value",
        "InvalidGrid": "value",
        "NotATime": "value",
        "NotALook": "value",
        "NotAReader": "value",
        "NotATable": "value",
        "NotASetting": "value",
        "NotAPlan": "value",
        "NotAStore": "value",
        "InvalidRows": "index",
        "InvalidApart": "index",
        "InvalidFeeds": "index",
        "InvalidColumns": "index",
        "InvalidDeed": "index",
    },
    "StateError": {
        "MissingRow": "value",
        "NoSuchPart": "value",
        "NeverRead": "value",
        "NeverChanged": "value",
        "NothingToUndo": None,
    },
    "RuleError": {"NotKept": "value", "NoGrid": None},
    "LimitError": {"TooMany": "limit"},
}

PASSED = [
    0,
    -1,
    10 ** 59 + 7,
    -(10 ** 60) + 1,
    True,
    False,
    None,
    "",
    "a",
    "Not A Name %",
    (),
    ("a", 3),
    (("a", 1, 2), [None]),
    [],
    [1, [2]],
    {"a": 1},
    1.5,
    object(),
]


def all_errors():
    return [
        (name, base, field)
        for base, fields in ERRORS.items()
        for name, field in fields.items()
    ]


class ErrorsTest(unittest.TestCase):
    def make(self, name, field, value):
        made = getattr(errors, name)
        return [made(value), made(**{field: value})]

    def test_the_field_holds_what_was_passed(self):
        for name, _, field in all_errors():
            if field is None:
                continue
            for value in PASSED:
                for error in self.make(name, field, value):
                    with self.subTest(name=name, value=value):
                        self.assertIs(getattr(error, field), value)

    def test_errors_have_no_other_fields(self):
        for name, _, field in all_errors():
            made = getattr(errors, name)
            with self.subTest(name):
                if field is None:
                    self.assertEqual(vars(made()), {})
                else:
                    self.assertEqual(vars(made(5)), {field: 5})

    def test_a_field_is_required(self):
        for name, _, field in all_errors():
            if field is not None:
                with self.subTest(name), self.assertRaises(TypeError):
                    getattr(errors, name)()

    def test_instance_of_the_class_its_base_and_no_other(self):
        names = [name for name, _, _ in all_errors()] + list(BASES)
        for name, base, field in all_errors():
            made = getattr(errors, name)
            error = made() if field is None else made(1)
            kinds = [other for other in names if isinstance(error, getattr(errors, other))]
            with self.subTest(name):
                self.assertEqual(kinds, [name, base])
                self.assertEqual(len(made.__mro__), len(BASES[base].__mro__) + 2)

    def test_instance_of_the_error_of_python(self):
        for name, base, field in all_errors():
            made = getattr(errors, name)
            error = made() if field is None else made(1)
            for other, python in BASES.items():
                with self.subTest(name=name, python=python):
                    self.assertEqual(isinstance(error, python), other == base)

    def test_base_classes(self):
        for name, python in BASES.items():
            base = getattr(errors, name)
            with self.subTest(name):
                self.assertEqual(base.__bases__, (python,))
                self.assertIsInstance(base(), python)

    def test_no_error_class_but_these(self):
        found = [name for name, value in vars(errors).items() if isinstance(value, type)]
        self.assertEqual(sorted(found), sorted([name for name, _, _ in all_errors()] + list(BASES)))

    def test_errors_can_be_raised_and_caught(self):
        for name, base, field in all_errors():
            made = getattr(errors, name)
            for kind in (made, getattr(errors, base), BASES[base]):
                with self.subTest(name=name, kind=kind), self.assertRaises(kind):
                    raise made() if field is None else made(["x"])


if __name__ == "__main__":
    unittest.main()
