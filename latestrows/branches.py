"""A place in a tree: what has been asked above it, and what is stated there (point 25)."""

from latestrows.cases import ASKED, LATE, NEVER, WITH, WITHOUT, at_most, more
from latestrows.claims import AGE_AT_MOST
from latestrows.readers import Constant, Else, Missing, Value
from latestrows.times import Ceil, Floor

# An outcome is a pair of one of these words and of the label of the look, or the constant, or None.
ROW = "row"
CONSTANT = "constant"
NOTHING = "nothing"
UNKNOWN = "unknown"

# The sides of an order node.
BEFORE = "before"
SAME = "same"
BEHIND = "behind"


def first_branch(case):
    """The top of a tree."""
    branch = Branch(case)
    if case.setting.at_rows is not None:
        branch.rows[ASKED] = case.setting.at_rows
    if case.late is not None:
        branch.rows[LATE] = case.late
        branch.state([at_most((ASKED, case.claim.number + 1), (LATE, 0))])
    return branch


class Branch:
    """A place in a tree.

    `above` has the first elements of the nodes above; `found` tells of the
    looks that were asked, by their labels, whether they found a row; `earlier`
    and `orders` have the sides of those nodes by their two names; `rows` has
    the feed of each row by its name.
    """

    def __init__(self, case):
        self.case = case
        self.above = {}
        self.found = {}
        self.earlier = {}
        self.orders = {}
        self.rows = {}
        self.bounds = {}

    def further(self, head, bounds):
        """The place behind a node with these first elements where these bounds hold, too."""
        branch = Branch(self.case)
        branch.above = {key: True for key in [*self.above, head]}
        branch.found = dict(self.found)
        branch.earlier = {pair: self.earlier[pair] for pair in self.earlier}
        branch.orders = {pair: self.orders[pair] for pair in self.orders}
        branch.rows = dict(self.rows)
        branch.bounds = {bound: True for bound in self.bounds}
        branch.state(bounds)
        return branch

    def state(self, bounds):
        for bound in bounds:
            self.bounds[bound] = True

    def is_settled(self, prefix, time):
        return all([self.found.get(prefix + look.text, False) for look in time.looks])

    def fails(self, prefix, time):
        return not all([self.found.get(prefix + look.text, True) for look in time.looks])

    def behind_look(self, label):
        """The places behind a look node; None if its condition is not met. Likewise the next three."""
        if label not in self.case.labelled_looks:
            return None
        prefix, look = self.case.labelled_looks[label]
        if not self.is_settled(prefix, look.time):
            return None
        head = ("look", label)
        found, none = self.further(head, self.case.found_bounds(label)), self.further(head, [])
        found.found[label] = True
        found.rows[label] = look.feed
        none.found[label] = False
        return [found, none]

    def behind_side(self, label, row):
        if label not in self.found or row not in self.rows:
            return None
        prefix, look = self.case.labelled_looks[label]
        if self.rows[row] != look.feed or not self._is_in_table(prefix, row):
            return None
        sides = self.case.side_bounds(label, row, self.found[label])
        return [self.further(("side", label, row), [side]) for side in sides]

    def behind_order(self, row, other):
        if row == other or row not in self.rows or other not in self.rows or self.rows[row] != self.rows[other]:
            return None
        distance = self.case.setting.distance(self.rows[row])
        same = [at_most((row, 0), (other, 0)), at_most((other, 0), (row, 0))]
        if self._cannot_be_same(row, other) or self._cannot_be_same(other, row):
            same.append(NEVER)
        head = ("order", row, other)
        branches = []
        for side, bounds in ((BEFORE, [at_most((row, distance), (other, 0))]), (SAME, same),
                             (BEHIND, [at_most((other, distance), (row, 0))])):
            branch = self.further(head, bounds)
            branch.orders[row, other] = side
            branches.append(branch)
        return branches

    def behind_earlier(self, time, other):
        if time not in self.case.labelled_times or other not in self.case.labelled_times:
            return None
        prefix, first = self.case.labelled_times[time]
        other_prefix, second = self.case.labelled_times[other]
        if prefix != other_prefix or not self.is_settled(prefix, first) or not self.is_settled(prefix, second):
            return None
        early, late = self.case.total(prefix, first), self.case.total(prefix, second)
        branches = []
        for is_earlier, bound in ((True, at_most(early, late)), (False, at_most(more(late, 1), early))):
            branch = self.further(("earlier", time, other), [bound])
            branch.earlier[time, other] = is_earlier
            branches.append(branch)
        return branches

    def _is_in_table(self, prefix, row):
        """Whether the row is in the table of the run with this prefix."""
        if prefix != WITHOUT:
            return True
        if row == LATE:
            return False
        if not row.startswith(WITH) or self.rows[row] != self.case.late:
            return True
        sides = (self.orders.get((row, LATE), SAME), self.orders.get((LATE, row), SAME))
        return sides != (SAME, SAME)

    def _cannot_be_same(self, row, other):
        """Whether the first one is the late row, and the other one is in the table without it."""
        return self.case.late is not None and row == LATE and not other.startswith(WITH)

    def stated(self):
        """All bounds that are stated here."""
        stated = {bound: True for bound in self.bounds}
        for prefix, time in list(self.case.labelled_times.values()):
            if isinstance(time, (Floor, Ceil)) and self.is_settled(prefix, time):
                for bound in self.case.grid_bounds(prefix, time):
                    stated[bound] = True
        if self.case.claim.word == AGE_AT_MOST:
            word, row = self._outcomes()[0]
            if word == ROW and self.rows[row] == self.case.claim.feed:
                stated[at_most((row, self.case.claim.number + 1), (ASKED, 0))] = True
        return stated

    def is_decided(self):
        """Whether the outcomes are known, and are as the claim says."""
        outcomes = self._outcomes()
        if UNKNOWN in [word for word, _ in outcomes]:
            return False
        word, what = outcomes[0]
        if self.case.claim.word == AGE_AT_MOST:
            return word != ROW or self.rows[what] != self.case.claim.feed
        other_word, other = outcomes[1]
        return word == other_word and (what == other or (word == ROW and self._are_together(what, other)))

    def _are_together(self, row, other):
        return SAME in (self.orders.get((row, other), BEFORE), self.orders.get((other, row), BEFORE))

    def _outcomes(self):
        return [self._outcome(prefix, reader) for prefix, reader in self.case.runs]

    def _outcome(self, prefix, reader):
        if isinstance(reader, Missing):
            return NOTHING, None
        if isinstance(reader, Constant):
            return CONSTANT, reader.number
        if isinstance(reader, Value):
            return self._outcome_of_look(prefix, reader.look)
        if isinstance(reader, Else):
            first = self._outcome(prefix, reader.first)
            return self._outcome(prefix, reader.second) if first[0] == NOTHING else first
        if self.fails(prefix, reader.time) or self.fails(prefix, reader.other):
            return NOTHING, None
        pair = (prefix + reader.time.text, prefix + reader.other.text)
        if pair not in self.earlier:
            return UNKNOWN, None
        return self._outcome(prefix, reader.first if self.earlier[pair] else reader.second)

    def _outcome_of_look(self, prefix, look):
        label = prefix + look.text
        if self.fails(prefix, look.time):
            return NOTHING, None
        if label not in self.found:
            return UNKNOWN, None
        return (ROW, label) if self.found[label] else (NOTHING, None)
