"""Stores: tables by groups, and the answers of a plan that are kept while rows come (point 22)."""

from latestrows.changes import change_range
from latestrows.errors import InvalidDeed, NeverChanged, NotAStore, NothingToUndo, NotKept
from latestrows.kinds import check_name, is_integer, is_name
from latestrows.plans import check_plan, full_readers, joined_row
from latestrows.settings import check_setting_for
from latestrows.tables import Table

PUT = "put"
TAKE = "take"


def what_if(store, group, *deeds):
    """The answers of the group after these deeds, which the store itself does not do."""
    if not isinstance(store, Store):
        raise NotAStore(store)
    check_name(group)
    other = store.copied()
    other.do_all(*deeds)
    return other.answers(group)


def _is_deed(value):
    if not isinstance(value, tuple) or len(value) not in (4, 5):
        return False
    word, group, feed, *numbers = value
    if not isinstance(word, str) or word != (TAKE if len(numbers) == 1 else PUT):
        return False
    return is_name(group) and is_name(feed) and all([is_integer(number) for number in numbers])


def _lies_within(distance, sides):
    least, greatest = sides
    return (least is None or least <= distance) and (greatest is None or distance <= greatest)


class Store:
    """A table for each group, and the joined rows of a plan on it.

    No list or dict of a store is ever changed but for the ranges, which are
    worked out once for each feed: a deed sets new ones. So what was there before
    it is still there if it has to be taken back.
    """

    def __init__(self, plan, setting):
        check_plan(plan)
        check_setting_for(full_readers(plan), setting)
        self.plan = plan
        self.setting = setting
        self.groups = ()
        self.history = ()
        self.worked = ()
        self._tables = {}
        self._answers = {}
        # For each deed of the history its group, the table ahead of it, and the feed and time of its row.
        self._past = ()
        self._ranges = {}

    def copied(self):
        other = Store(self.plan, self.setting)
        other.groups, other.history, other.worked = self.groups, self.history, self.worked
        other._tables, other._answers, other._past = self._tables, self._answers, self._past
        other._ranges = self._ranges
        return other

    def table_of(self, group):
        check_name(group)
        return self._tables.get(group, Table())

    def answers(self, group):
        check_name(group)
        return self._answers.get(group, ())

    def do(self, deed):
        self.do_all(deed)

    def do_all(self, *deeds, watch=None):
        for index, deed in enumerate(deeds):
            if not _is_deed(deed):
                raise InvalidDeed(index)
        groups, history, worked = self.groups, self.history, self.worked
        tables, answers, past = self._tables, self._answers, self._past
        done = None
        try:
            for index, deed in enumerate(deeds):
                self._do(deed)
                if watch is not None:
                    watch(self, index)
            done = True
        finally:
            if done is None:
                self.groups, self.history, self.worked = groups, history, worked
                self._tables, self._answers, self._past = tables, answers, past

    def undo(self):
        if len(self.history) == 0:
            raise NothingToUndo()
        group, table, feed, time = self._past[-1]
        self._set_table(group, table, feed, time)
        self.history = self.history[:-1]
        self._past = self._past[:-1]

    def _do(self, deed):
        word, group, feed, time, *values = deed
        before = self.table_of(group)
        after = before.with_row(feed, time, values[0]) if word == PUT else before.without(feed, time)
        if not self.setting.keeps(after):
            raise NotKept(after)
        self._set_table(group, after, feed, time)
        self.history = (*self.history, deed)
        self._past = (*self._past, (group, before, feed, time))

    def _set_table(self, group, table, feed, time):
        """Sets the table of the group, which differs from the present one by a row of the feed at the time alone."""
        left_times = list(table.times(self.plan.left))
        worked = [left for left in left_times if self._can_change(left, feed, time)]
        joined = {row[0]: row for row in self.answers(group)}
        for left in worked:
            joined[left] = joined_row(self.plan, table, left, self.setting.grid)
        tables = {other: self._tables[other] for other in self.groups if other != group}
        answers = {other: self._answers[other] for other in self.groups if other != group}
        if len(table) > 0:
            tables[group] = table
            answers[group] = tuple([joined[left] for left in left_times])
        self.groups = tuple(sorted(tables))
        self._tables = tables
        self._answers = answers
        self.worked = tuple(worked)

    def _can_change(self, left, feed, time):
        """Whether a row of the feed at the time can change the joined row of the left feed's row at its time."""
        if feed == self.plan.left and time == left:
            return True
        return any([_lies_within(time - left, sides) for sides in self._ranges_of(feed)])

    def _ranges_of(self, feed):
        """The change ranges of the feed, those of all columns with one."""
        if feed not in self._ranges:
            asked = self.setting.with_rows_of(self.plan.left)
            ranges = []
            for reader in full_readers(self.plan):
                try:
                    ranges.append(change_range(reader, feed, asked))
                except NeverChanged:
                    pass
            self._ranges[feed] = ranges
        return self._ranges[feed]

    def __len__(self):
        return len([row for group in self.groups for row in self._tables[group].rows])

    def __repr__(self):
        return f"Store({self.plan.left}, {len(self.groups)} groups)"
