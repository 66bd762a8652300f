import unittest

from latestrows.errors import (
    InvalidDeed, InvalidName, MissingRow, NoGrid, NotAPlan, NotASetting, NotAStore, NothingToUndo, NotKept,
)
from latestrows.plans import Plan
from latestrows.settings import Setting
from latestrows.stores import Store, what_if
from latestrows.tables import Table
from latestrows.texts import read_reader

from raising import RaisingCase
from wrong_parts import NOT_SETTINGS, ODD
from wrong_values import NOT_INTEGERS, NOT_NAMES, EqualToAll, NoTruth

NEAR = read_reader("value(before(a, now, 4))")
PLAN = Plan("x", ("a", None, NEAR))
GRIDDED = Plan("x", ("a", None, read_reader("value(before(a, floor(now)))")))

PUT, TAKE = ("put", "g", "x", 0, 1), ("take", "g", "x", 0)

NOT_DEEDS = ODD + [
    "put", ("put",), list(PUT), list(TAKE), PUT[:4], TAKE + (1,), PUT + (1,), TAKE[:3], (PUT,), [PUT],
    ("Put", *PUT[1:]), ("Take", *TAKE[1:]), ("take", *PUT[1:]), ("put", *TAKE[1:]), ("", *PUT[1:]), (None, *PUT[1:]),
    (b"put", *PUT[1:]), ("undo", *TAKE[1:]), (EqualToAll(), *PUT[1:]), (NoTruth(), *TAKE[1:]), ("drop", *TAKE[1:]),
]
for good in (PUT, TAKE):
    NOT_DEEDS += [good[:place] + (wrong,) + good[place + 1:] for place in (1, 2) for wrong in NOT_NAMES]
NOT_DEEDS += [PUT[:place] + (wrong,) + PUT[place + 1:] for place in (3, 4) for wrong in NOT_INTEGERS]
NOT_DEEDS += [TAKE[:3] + (wrong,) for wrong in NOT_INTEGERS]

GROUPS = ("g", "h", "other")


def state(store):
    """All that can be seen of a store."""
    return (
        store.groups, store.history, store.worked, len(store), repr(store),
        [store.table_of(group).rows for group in GROUPS], [store.answers(group) for group in GROUPS],
    )


class StoreCase(RaisingCase):
    def store(self, *deeds, plan=PLAN, setting=Setting()):
        store = Store(plan, setting)
        store.do_all(*deeds)
        return store

    def assert_unchanged(self, store, kind, field, call, *passed, **named):
        """The call raises the error, and the store is as it was."""
        before = state(store)
        self.assert_raised(kind, field, call, *passed, **named)
        self.assertEqual(state(store), before)


class NewStoreTest(StoreCase):
    def test_empty(self):
        setting = Setting(apart=(("a", 2),))
        store = Store(PLAN, setting)
        self.assertIs(store.plan, PLAN)
        self.assertIs(store.setting, setting)
        self.assertEqual((store.groups, store.history, store.worked, len(store)), ((), (), (), 0))
        self.assertIs(bool(store), False)
        self.assertEqual(repr(store), "Store(x, 0 groups)")
        self.assertEqual((store.table_of("g"), store.answers("g")), (Table(), ()))

    def test_equal_to_itself_alone(self):
        store = self.store(PUT)
        self.assertIs(store == store, True)
        for other in (self.store(PUT), store.plan, None, True, EqualToAll.__eq__):
            self.assertIs(store == other, False)
            self.assertIs(store != other, True)

    def test_errors(self):
        for wrong in ODD + ["x", ("x", ("a", None, NEAR)), Plan, NEAR]:
            self.assert_raised(NotAPlan, wrong, Store, wrong, Setting())
            self.assert_raised(NotAPlan, wrong, Store, wrong, None)
            self.assert_raised(NotAPlan, wrong, Store, setting=None, plan=wrong)
        for wrong in NOT_SETTINGS:
            self.assert_raised(NotASetting, wrong, Store, PLAN, wrong)
            self.assert_raised(NotASetting, wrong, Store, GRIDDED, wrong)
        self.assert_bare(NoGrid, Store, GRIDDED, Setting())
        self.assert_bare(NoGrid, Store, setting=Setting(at_rows="x"), plan=GRIDDED)
        based = Plan("x", ("a", None, read_reader("value(before(a, ceil(now)))")), ("b", "a", NEAR))
        self.assert_bare(NoGrid, Store, based, Setting())


class DeedsTest(StoreCase):
    def test_put_and_take(self):
        store = Store(PLAN, Setting())
        self.assertIs(store.do(("put", "g", "x", 3, 7)), None)
        self.assertEqual((store.table_of("g"), store.answers("g")), (Table(("x", 3, 7)), ((3, 7, None),)))
        store.do(deed=("put", "g", "a", 1, 70))
        self.assertEqual(store.answers("g"), ((3, 7, 70),))
        store.do(("put", "g", "a", 1, 71))
        self.assertEqual(store.table_of("g"), Table(("x", 3, 7), ("a", 1, 71)))
        self.assertEqual(store.answers(group="g"), ((3, 7, 71),))
        store.do(("take", "g", "a", 1))
        self.assertEqual(store.answers("g"), ((3, 7, None),))
        store.do(("take", "g", "x", 3))
        self.assertEqual((store.table_of(group="g"), store.answers("g"), store.groups), (Table(), (), ()))
        self.assertEqual(len(store.history), 5)

    def test_history_holds_the_deeds_as_they_were_passed(self):
        deeds = [("put", "g", "x", 3, 7), ("put", "h", "zz", 3, 7), ("put", "g", "x", 3, 7), ("take", "h", "zz", 3)]
        store = Store(PLAN, Setting())
        for number, deed in enumerate(deeds):
            store.do(deed)
            self.assertEqual(store.history, tuple(deeds[:number + 1]))
            self.assertIs(store.history[-1], deed)

    def test_groups_length_and_repr(self):
        store = self.store(("put", "h", "x", 1, 1), ("put", "g", "b", 1, 1), ("put", "h", "x", 2, 1))
        self.assertEqual((store.groups, len(store), repr(store)), (("g", "h"), 3, "Store(x, 2 groups)"))
        self.assertIs(bool(store), True)
        store.do(("put", "a", "b", 1, 1))
        self.assertEqual((store.groups, len(store), repr(store)), (("a", "g", "h"), 4, "Store(x, 3 groups)"))
        store.do(("take", "g", "b", 1))
        self.assertEqual((store.groups, len(store), repr(store)), (("a", "h"), 3, "Store(x, 2 groups)"))
        store.undo()
        self.assertEqual((store.groups, len(store)), (("a", "g", "h"), 4))
        store.do_all(("take", "a", "b", 1), ("take", "g", "b", 1), ("take", "h", "x", 2))
        self.assertEqual((store.groups, len(store), repr(store)), (("h",), 1, "Store(x, 1 groups)"))

    def test_groups_do_not_touch_one_another(self):
        store = self.store(("put", "g", "x", 3, 7), ("put", "h", "a", 2, 70), ("put", "h", "x", 3, 8))
        self.assertEqual((store.answers("g"), store.answers("h")), (((3, 7, None),), ((3, 8, 70),)))
        store.do(("put", "g", "a", 3, 60))
        self.assertEqual((store.answers("g"), store.answers("h")), (((3, 7, 60),), ((3, 8, 70),)))
        store.do(("take", "h", "x", 3))
        self.assertEqual((store.answers("g"), store.answers("h")), (((3, 7, 60),), ()))

    def test_feeds_that_the_plan_does_not_name(self):
        store = self.store(("put", "g", "x", 3, 7), ("put", "g", "zz", 3, 70))
        self.assertEqual((store.answers("g"), store.worked, len(store)), (((3, 7, None),), (), 2))
        self.assert_unchanged(store, MissingRow, ("yy", 3), store.do, ("take", "g", "yy", 3))
        store.do(("take", "g", "zz", 3))
        self.assertEqual((store.answers("g"), store.worked, len(store)), (((3, 7, None),), (), 1))

    def test_a_put_of_what_is_there_already(self):
        store = self.store(("put", "g", "x", 3, 7), ("put", "g", "a", 2, 70))
        before = state(store)
        store.do(("put", "g", "a", 2, 70))
        self.assertEqual(state(store)[3:], before[3:])
        self.assertEqual(len(store.history), 3)
        self.assertEqual([time for time in store.worked if time != 3], [])
        store.undo()
        self.assertEqual(state(store)[3:], before[3:])
        self.assertEqual(len(store.history), 2)

    def test_no_group(self):
        store = self.store(PUT)
        for wrong in NOT_NAMES:
            self.assert_unchanged(store, InvalidName, wrong, store.table_of, wrong)
            self.assert_unchanged(store, InvalidName, wrong, store.answers, wrong)

    def test_no_deed(self):
        store = self.store(PUT)
        for wrong in NOT_DEEDS:
            self.assert_unchanged(store, InvalidDeed, 0, store.do, wrong)
            self.assert_unchanged(store, InvalidDeed, 0, store.do_all, wrong)
            self.assert_unchanged(store, InvalidDeed, 1, store.do_all, ("take", "g", "x", 0), wrong, None)
            # Ahead of all deeds, and of their errors.
            self.assert_unchanged(store, InvalidDeed, 2, store.do_all, TAKE, ("take", "h", "zz", 5), wrong)

    def test_missing_rows(self):
        store = self.store(("put", "g", "x", 3, 7), ("put", "h", "a", 5, 7))
        for group, feed, time in (("g", "x", 4), ("g", "a", 3), ("h", "x", 3), ("other", "x", 3), ("g", "a", 10 ** 59)):
            self.assert_unchanged(store, MissingRow, (feed, time), store.do, ("take", group, feed, time))

    def test_tables_that_do_not_keep_the_setting(self):
        setting = Setting(grid=(5, 1), apart=(("a", 7), ("x", 3)), on_grid=("a",))
        store = self.store(("put", "g", "x", 3, 7), ("put", "g", "a", 1, 7), ("put", "g", "zz", 4, 4), setting=setting)
        rows = store.table_of("g").rows
        for late in (("x", 1, 0), ("x", 5, 0), ("a", 6, 0), ("a", -4, 0), ("a", 9, 0), ("a", 0, 0)):
            before = state(store)
            with self.assertRaises(NotKept) as caught:
                store.do(("put", "g", *late))
            self.assertIs(type(caught.exception), NotKept)
            self.assertEqual(caught.exception.value, Table(*rows, late))
            self.assertEqual(state(store), before)
        for late in (("x", 0, 0), ("x", 6, 0), ("a", 11, 0), ("a", -9, 0), ("zz", 5, 0), ("x", 3, 9), ("a", 1, 0)):
            store.do(("put", "g", *late))
            store.undo()
        # Another group is a table for itself.
        store.do(("put", "h", "x", 4, 7))

    def test_the_error_of_a_new_value_in_an_empty_group(self):
        store = self.store(setting=Setting(grid=(5, 1), on_grid=("a",)))
        with self.assertRaises(NotKept) as caught:
            store.do(("put", "g", "a", 5, 3))
        self.assertEqual(caught.exception.value, Table(("a", 5, 3)))
        self.assertEqual((store.groups, store.history), ((), ()))


class UndoTest(StoreCase):
    def test_nothing_to_undo(self):
        store = Store(PLAN, Setting())
        self.assert_bare(NothingToUndo, store.undo)
        store.do(PUT)
        self.assertIs(store.undo(), None)
        before = state(store)
        self.assert_bare(NothingToUndo, store.undo)
        self.assertEqual(state(store), before)

    def test_one_by_one(self):
        deeds = [("put", "g", "x", 3, 7), ("put", "h", "x", 3, 7), ("put", "g", "a", 2, 70), ("put", "g", "a", 2, 71),
                 ("put", "g", "a", 3, 72), ("take", "g", "a", 3), ("put", "g", "x", 3, 8), ("take", "g", "x", 3),
                 ("take", "h", "x", 3)]
        store, seen = Store(PLAN, Setting()), []
        for deed in deeds:
            seen.append(state(store))
            store.do(deed)
        for before in reversed(seen):
            store.undo()
            after = state(store)
            self.assertEqual((after[:2], after[3:]), (before[:2], before[3:]))

    def test_what_do_all_did_is_taken_back_one_by_one(self):
        store = self.store(("put", "g", "x", 3, 7), ("put", "g", "a", 2, 70))
        store.undo()
        self.assertEqual((store.answers("g"), len(store.history)), (((3, 7, None),), 1))


class WorkedTest(StoreCase):
    def test_the_left_rows_near_the_row_of_the_deed(self):
        store = self.store(*[("put", "g", "x", time, 1) for time in (0, 3, 5, 9, 20)], ("put", "h", "x", 4, 1))
        self.assertEqual(store.worked, (4,))
        for deed, expected in (
            (("put", "g", "a", 3, 70), (3, 5)), (("put", "g", "a", 5, 71), (5, 9)), (("put", "g", "a", 10, 71), ()),
            (("take", "g", "a", 5), (5, 9)), (("put", "g", "x", 4, 1), (4,)), (("put", "g", "x", 4, 2), (4,)),
            (("take", "g", "x", 4), ()), (("put", "g", "zz", 4, 2), ()), (("put", "h", "a", 4, 2), (4,)),
            (("put", "other", "a", 4, 2), ()),
        ):
            store.do(deed)
            self.assertEqual(store.worked, expected)
            self.assertIs(type(store.worked), tuple)

    def test_after_do_all_undo_and_errors(self):
        store = self.store(("put", "g", "x", 0, 1), ("put", "g", "x", 9, 1))
        self.assertEqual(store.worked, (9,))
        store.do_all(("put", "g", "a", 9, 1), ("put", "g", "a", 0, 1))
        self.assertEqual(store.worked, (0,))
        self.assert_unchanged(store, MissingRow, ("a", 5), store.do, ("take", "g", "a", 5))
        self.assert_unchanged(store, MissingRow, ("a", 5), store.do_all, ("take", "g", "a", 9), ("take", "g", "a", 5))
        self.assertEqual(store.worked, (0,))
        store.undo()
        self.assertEqual(store.worked, (0,))
        store.undo()
        self.assertEqual(store.worked, (9,))
        store.undo()
        # The row at 9 is not there any more.
        self.assertEqual(store.worked, ())
        store.do_all()
        self.assertEqual(store.worked, ())
        self.assertEqual(len(store.history), 1)

    def test_each_column_by_itself(self):
        """Between the ranges of two columns nothing is worked out."""
        plan = Plan("x", ("one", None, read_reader("value(before(a, shift(now, -20), 2))")),
                    ("two", None, read_reader("value(after(a, shift(now, 20), 2))")))
        store = self.store(*[("put", "g", "x", time, 1) for time in range(-30, 31, 5)], plan=plan)
        store.do(("put", "g", "a", 0, 1))
        self.assertEqual(store.worked, (-20, 20))
        store.do(("put", "g", "a", 1, 1))
        self.assertEqual(store.worked, (-20,))

    def test_the_setting(self):
        plan = Plan("x", ("a", None, read_reader("value(before(x, now, 4, strict))")))
        setting = Setting(apart=(("x", 5),))
        apart = self.store(("put", "g", "x", 0, 1), ("put", "g", "x", 5, 1), plan=plan, setting=setting)
        self.assertEqual(apart.worked, (5,))
        near = self.store(("put", "g", "x", 0, 1), ("put", "g", "x", 3, 1), ("put", "g", "x", 1, 1), plan=plan)
        self.assertEqual((near.worked, near.answers("g")), ((1, 3), ((0, 1, None), (1, 1, 1), (3, 1, 1))))

    def test_the_setting_has_other_rows_to_ask_at(self):
        plan = Plan("x", ("a", None, read_reader("value(before(b, now))")))
        store = self.store(("put", "g", "x", 0, 1), ("put", "g", "b", -5, 3), plan=plan, setting=Setting(at_rows="b"))
        self.assertEqual((store.worked, store.answers("g")), ((0,), ((0, 1, 3),)))


class DoAllTest(StoreCase):
    def test_in_order(self):
        store = Store(PLAN, Setting())
        self.assertIs(store.do_all(("put", "g", "x", 0, 1), ("take", "g", "x", 0), ("put", "g", "x", 0, 2)), None)
        self.assertEqual(store.answers("g"), ((0, 2, None),))
        self.assertIs(store.do_all(), None)
        self.assertEqual(len(store.history), 3)

    def test_all_or_none(self):
        setting = Setting(apart=(("a", 3),))
        store = self.store(("put", "g", "x", 0, 1), ("put", "g", "a", 0, 1), ("put", "h", "x", 0, 1), setting=setting)
        deeds = [("put", "g", "x", 5, 1), ("take", "h", "x", 0), ("put", "g", "a", 0, 9), ("put", "other", "x", 1, 1)]
        for place in range(len(deeds) + 1):
            some = deeds[:place] + [("take", "h", "a", 7)] + deeds[place:]
            self.assert_unchanged(store, MissingRow, ("a", 7), store.do_all, *some)
            before = state(store)
            with self.assertRaises(NotKept) as caught:
                store.do_all(*deeds[:place], ("put", "g", "a", 2, 7), *deeds[place:])
            self.assertIn(("a", 2, 7), caught.exception.value)
            self.assertEqual(state(store), before)
        store.do_all(*deeds)
        self.assertEqual((store.groups, store.answers("g")), (("g", "other"), ((0, 1, 9), (5, 1, None))))

    def test_watch(self):
        store, seen = Store(PLAN, Setting()), []
        deeds = [("put", "g", "x", 0, 1), ("put", "g", "a", -2, 70), ("put", "h", "x", 5, 1), ("take", "g", "x", 0)]

        def watch(watched, index):
            self.assertIs(watched, store)
            self.assertEqual(watched.history, tuple(deeds[:index + 1]))
            seen.append((index, watched.answers("g"), watched.worked, len(watched)))

        store.do_all(*deeds, watch=watch)
        self.assertEqual(seen, [(0, ((0, 1, None),), (0,), 1), (1, ((0, 1, 70),), (0,), 2),
                                (2, ((0, 1, 70),), (5,), 3), (3, (), (), 2)])
        store.do_all(watch=watch)
        self.assertEqual(len(seen), 4)

    def test_errors_of_watch(self):
        deeds = [("put", "g", "x", 5, 1), ("take", "h", "x", 0), ("put", "g", "a", 0, 9)]
        own = [InvalidName("Q"), NotKept(Table()), NothingToUndo(), MissingRow(("a", 1))]
        for error in own + [ValueError("x"), KeyError(3), ZeroDivisionError(), StopIteration(), KeyboardInterrupt(),
                            GeneratorExit(), SystemExit(), RuntimeError("y")]:
            for place in range(len(deeds)):
                store = self.store(("put", "h", "x", 0, 1), ("put", "g", "a", 0, 1))
                before, seen = state(store), []

                def watch(_, index):
                    seen.append(index)
                    if index == place:
                        raise error

                with self.assertRaises(type(error)) as caught:
                    store.do_all(*deeds, watch=watch)
                self.assertIs(caught.exception, error)
                self.assertEqual((state(store), seen), (before, list(range(place + 1))))
                store.do_all(*deeds)
                self.assertEqual(store.answers("g"), ((5, 1, None),))

    def test_watch_is_called_ahead_of_the_error_of_a_later_deed(self):
        store, seen = self.store(PUT), []
        before = state(store)
        with self.assertRaises(MissingRow):
            store.do_all(("put", "g", "x", 5, 1), ("take", "g", "a", 5), ("put", "g", "x", 6, 1),
                         watch=lambda _, index: seen.append(index))
        self.assertEqual((seen, state(store)), ([0], before))
        with self.assertRaises(InvalidDeed):
            store.do_all(("put", "g", "x", 5, 1), 5, watch=lambda _, index: seen.append(index))
        self.assertEqual((seen, state(store)), ([0], before))


class WhatIfTest(StoreCase):
    def test_answers_after_the_deeds(self):
        store = self.store(("put", "g", "x", 0, 1), ("put", "h", "x", 0, 1))
        before = state(store)
        self.assertEqual(what_if(store, "g", ("put", "g", "a", -1, 5)), ((0, 1, 5),))
        self.assertEqual(what_if(store, "g", ("put", "h", "a", -1, 5)), ((0, 1, None),))
        self.assertEqual(what_if(store, "h", ("put", "h", "a", -1, 5), ("take", "h", "x", 0)), ())
        self.assertEqual(what_if(store, "g"), ((0, 1, None),))
        self.assertEqual(what_if(store, "other", ("put", "other", "x", 3, 4)), ((3, 4, None),))
        self.assertEqual(what_if(group="g", store=store), store.answers("g"))
        self.assertEqual(state(store), before)
        store.undo()
        self.assertEqual(store.groups, ("g",))

    def test_errors(self):
        store = self.store(PUT)
        for wrong in ODD + [Store, PLAN, (PLAN, Setting()), Table(), "Store(x, 1 groups)"]:
            self.assert_raised(NotAStore, wrong, what_if, wrong, "g", PUT)
            self.assert_raised(NotAStore, wrong, what_if, wrong, "G", 5)
        for wrong in NOT_NAMES:
            self.assert_unchanged(store, InvalidName, wrong, what_if, store, wrong, PUT)
            self.assert_unchanged(store, InvalidName, wrong, what_if, store, wrong, 5)
        for wrong in NOT_DEEDS:
            self.assert_unchanged(store, InvalidDeed, 0, what_if, store, "g", wrong)
            self.assert_unchanged(store, InvalidDeed, 2, what_if, store, "g", PUT, ("take", "h", "a", 0), wrong)
        self.assert_unchanged(store, MissingRow, ("a", 1), what_if, store, "g", TAKE, ("take", "g", "a", 1))
        kept = self.store(PUT, setting=Setting(apart=(("x", 2),)))
        before = state(kept)
        with self.assertRaises(NotKept) as caught:
            what_if(kept, "g", ("put", "g", "x", 1, 1))
        self.assertEqual((caught.exception.value, state(kept)), (Table(("x", 0, 1), ("x", 1, 1)), before))

    def test_the_example_of_the_document(self):
        store = Store(Plan("x", ("a", None, read_reader("value(before(a, now, 4))"))), Setting())
        store.do_all(("put", "g", "x", 0, 1), ("put", "g", "x", 9, 2), ("put", "g", "a", -3, 70))
        first = [store.answers("g"), what_if(store, "g", ("put", "g", "a", 6, 71)), store.answers("h"), len(store)]
        store.do(("put", "g", "a", 8, 72))
        second = [store.worked, store.answers("g")]
        store.undo()
        self.assertEqual(
            first + second + [store.answers("g") == first[0], len(store.history), repr(store)],
            [((0, 1, 70), (9, 2, None)), ((0, 1, 70), (9, 2, 71)), (), 3, (9,), ((0, 1, 70), (9, 2, 72)), True, 3,
             "Store(x, 1 groups)"],
        )


if __name__ == "__main__":
    unittest.main()
