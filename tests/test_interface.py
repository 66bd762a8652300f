"""The names of the interface: where they are defined, and what they are called with."""

import importlib
import inspect
import unittest

TIME = {"at": "(self, other)", "__add__": "(self, other)", "__sub__": "(self, other)", "__eq__": "(self, other)",
        "__str__": "(self)", "__repr__": "(self)"}
LOOK = {"__init__": "(self, feed, time, *, within=None, strict=False)", "at": "(self, other)",
        "__eq__": "(self, other)", "__str__": "(self)", "__repr__": "(self)"}
READER = {"replaced": "(self, index, other)", "at": "(self, time)", "without_bound": "(self, look)",
          "__or__": "(self, other)", "__eq__": "(self, other)", "__str__": "(self)", "__repr__": "(self)"}

CLASSES = {
    "tables": {
        "Table": {"__init__": "(self, *rows)", "value_at": "(self, feed, time)", "times": "(self, feed)",
                  "with_row": "(self, feed, time, value)", "without": "(self, feed, time)", "__iter__": "(self)",
                  "__len__": "(self)", "__contains__": "(self, x)", "__eq__": "(self, other)", "__repr__": "(self)"},
    },
    "times": {
        "Now": {"__init__": "(self)", **TIME},
        "Shift": {"__init__": "(self, time, by)", **TIME},
        "Floor": {"__init__": "(self, time)", **TIME},
        "Ceil": {"__init__": "(self, time)", **TIME},
        "RowTime": {"__init__": "(self, look)", **TIME},
        "Before": LOOK,
        "After": LOOK,
    },
    "readers": {
        "Value": {"__init__": "(self, look)", **READER},
        "Constant": {"__init__": "(self, number)", **READER},
        "Missing": {"__init__": "(self)", **READER},
        "Else": {"__init__": "(self, first, second)", **READER},
        "IfEarlier": {"__init__": "(self, time, other, first, second)", **READER},
    },
    "settings": {
        "Setting": {"__init__": "(self, *, grid=None, apart=(), on_grid=(), at_rows=None)", "distance": "(self, feed)",
                    "keeps": "(self, table)", "asks": "(self, table, time)", "with_rows_of": "(self, feed)",
                    "__str__": "(self)", "__eq__": "(self, other)", "__repr__": "(self)"},
    },
    "comparing": {"Example": {"__init__": "(self, table, time)"}},
    "changes": {"Change": {"__init__": "(self, before, after, time)"}},
    "plans": {
        "Plan": {"__init__": "(self, left, *columns)", "reader": "(self, name)", "run": "(self, table, *, grid=None)",
                 "__len__": "(self)", "__contains__": "(self, x)", "__eq__": "(self, other)", "__repr__": "(self)"},
    },
    "stores": {
        "Store": {"__init__": "(self, plan, setting)", "table_of": "(self, group)", "answers": "(self, group)",
                  "do": "(self, deed)", "do_all": "(self, *deeds, watch=None)", "undo": "(self)", "__len__": "(self)",
                  "__repr__": "(self)"},
    },
}

FILES = [
    "limits", "errors", "tables", "times", "readers", "texts", "settings", "running", "comparing", "ages", "changes",
    "idle", "plans", "stores", "reports", "checker", "certificates",
]

STATIC = {("tables", "Table", "of"): "(rows)", ("settings", "Setting", "read"): "(text)"}

FUNCTIONS = {
    "texts": {"read_time": "(text)", "read_look": "(text)", "read_reader": "(text)"},
    "running": {"read": "(reader, table, time, *, grid=None)", "outcome": "(reader, table, time, *, grid=None)",
                "find": "(look, table, time, *, grid=None)"},
    "comparing": {"alike": "(reader, other, setting)", "difference": "(reader, other, setting)",
                  "outcomes": "(reader, setting)"},
    "ages": {"age_range": "(reader, feed, setting)", "example_aged": "(reader, feed, age, setting)"},
    "changes": {"change_at": "(reader, feed, distance, setting)", "change_range": "(reader, feed, setting)",
                "looks_ahead": "(reader, setting)"},
    "idle": {"idle_parts": "(reader, setting)", "idle_bounds": "(reader, setting)"},
    "plans": {"alike_plans": "(plan, second, setting)", "plans_difference": "(plan, second, setting)"},
    "stores": {"what_if": "(store, group, *deeds)"},
    "reports": {"report": "(reader, setting)"},
    "checker": {"holds": "(claim, certificate)"},
    "certificates": {"certify_alike": "(reader, other, setting)", "certify_age": "(reader, feed, number, setting)",
                     "certify_late": "(reader, feed, number, setting)"},
}


def module(file):
    return importlib.import_module("latestrows." + file)


class InterfaceTest(unittest.TestCase):
    def test_classes(self):
        for file, classes in CLASSES.items():
            for name, methods in classes.items():
                found = vars(module(file))[name]
                self.assertIs(inspect.isclass(found), True)
                self.assertEqual(found.__module__, "latestrows." + file)
                for method, signature in methods.items():
                    with self.subTest(file=file, name=name, method=method):
                        self.assertIn(method, vars(found))
                        self.assertIs(inspect.isfunction(vars(found)[method]), True)
                        self.assertEqual(str(inspect.signature(vars(found)[method])), signature)

    def test_static_methods(self):
        for (file, name, method), signature in STATIC.items():
            found = vars(vars(module(file))[name])[method]
            self.assertIsInstance(found, staticmethod)
            self.assertEqual(str(inspect.signature(found.__func__)), signature)

    def test_functions(self):
        for file, functions in FUNCTIONS.items():
            for name, signature in functions.items():
                with self.subTest(file=file, name=name):
                    found = vars(module(file))[name]
                    self.assertIs(inspect.isfunction(found), True)
                    self.assertEqual(found.__module__, "latestrows." + file)
                    self.assertEqual(str(inspect.signature(found)), signature)

    def test_what_is_iterated_as_it_is_asked(self):
        self.assertIs(inspect.isgeneratorfunction(module("tables").Table.times), True)
        self.assertIs(inspect.isgeneratorfunction(module("plans").Plan.run), True)

    def test_equal_to_themselves_alone(self):
        for file, name in (("comparing", "Example"), ("changes", "Change"), ("stores", "Store")):
            self.assertNotIn("__eq__", vars(vars(module(file))[name]))

    def test_the_files(self):
        for file in FILES:
            self.assertIsNotNone(module(file).__doc__, file)


if __name__ == "__main__":
    unittest.main()
