"""Judges trees as point 25 words it: all that holds on a way is worked out anew from the nodes above.

A way is a list of pairs: the first elements of a node, and the letter of the
tree in it that was taken.
"""

from latestrows.readers import Constant, Else, Missing, Value
from latestrows.settings import Setting
from latestrows.texts import read_reader
from latestrows.times import Before, Ceil, Floor, Now, RowTime, Shift

# How many elements stand ahead of the trees in a node, and the letters of the trees.
SHAPES = {
    "look": (2, "AB"), "side": (3, "AB"), "order": (3, "ABC"), "earlier": (3, "AB"), "clash": (2, ""), "end": (1, ""),
}


def plain_closes(claim, tree):
    return PlainTree(claim).closes(tree, [])


def times_inside(thing):
    if isinstance(thing, Now):
        return [thing]
    if isinstance(thing, (Shift, Floor, Ceil)):
        return [thing] + times_inside(thing.time)
    if isinstance(thing, RowTime):
        return [thing] + times_inside(thing.look)
    return times_inside(thing.time)


def looks_inside(thing):
    """The looks inside a time, or inside a look other than itself."""
    if isinstance(thing, Now):
        return []
    if isinstance(thing, RowTime):
        return [thing.look] + looks_inside(thing.look)
    return looks_inside(thing.time)


class PlainTree:
    def __init__(self, claim):
        self.word, self.setting = claim[0], Setting.read(claim[-1])
        if self.word == "alike":
            self.runs = [("", read_reader(claim[1])), ("", read_reader(claim[2]))]
            self.feed = self.number = None
        else:
            self.feed, self.number = claim[2:4]
            prefixes = ("0 ", "1 ") if self.word == "unchanged" else ("",)
            self.runs = [(prefix, read_reader(claim[1])) for prefix in prefixes]
        self.two = self.word == "unchanged"
        self.times, self.looks = {}, {}
        for run, reader in self.runs:
            for part in reader.parts:
                things = [part.look] if isinstance(part, Value) else []
                if not isinstance(part, (Value, Constant, Missing, Else)):
                    things = [part.time, part.other]
                for thing in things:
                    for time in times_inside(thing):
                        self.times[run + str(time)] = (run, time)
                    for look in looks_inside(thing) + ([thing] if isinstance(part, Value) else []):
                        self.looks[run + str(look)] = (run, look)

    # What has been asked.

    def found(self, label, way):
        for head, letter in way:
            if head == ("look", label):
                return letter == "A"
        return None

    def finds_none(self, run, look, way):
        return self.found(run + str(look), way) is False or self.fails(run, look.time, way)

    def fails(self, run, time, way):
        return any(self.finds_none(run, look, way) for look in looks_inside(time))

    def settled(self, run, time, way):
        return all(self.found(run + str(look), way) is True for look in looks_inside(time))

    def order(self, row, other, way):
        """The letters of the order nodes of the two rows, as from the first one to the second one."""
        turned = {"A": "C", "B": "B", "C": "A"}
        return [letter for head, letter in way if head == ("order", row, other)] + \
            [turned[letter] for head, letter in way if head == ("order", other, row)]

    # Unknowns and bounds.

    def value(self, run, time):
        if isinstance(time, Now):
            return "t", 0
        if isinstance(time, Shift):
            name, plus = self.value(run, time.time)
            return name, plus + time.by
        return run + (str(time.look) if isinstance(time, RowTime) else str(time)), 0

    def le(self, first, first_plus, second, second_plus):
        """first + first_plus <= second + second_plus; each is an unknown with an integer, or the label of a row."""
        (a, m), (b, n) = [one if isinstance(one, tuple) else (one, 0) for one in (first, second)]
        return a, b, n + second_plus - m - first_plus

    def rows(self, way):
        rows = {label: self.looks[label][1].feed for label in self.looks if self.found(label, way)}
        if self.setting.at_rows is not None:
            rows["t"] = self.setting.at_rows
        if self.two:
            rows["p"] = self.feed
        return rows

    def in_table(self, run, row, way):
        if run != "0 ":
            return True
        if row == "p":
            return False
        if row == "t" or row.startswith("0 "):
            return True
        return self.rows(way)[row] != self.feed or "A" in self.order(row, "p", way) + self.order("p", row, way)

    def stated_by(self, head, letter, way):
        if head[0] == "look":
            return self.look_bounds(head[1]) if letter == "A" else []
        if head[0] == "side":
            return [self.side_bound(head[1], head[2], letter, self.found(head[1], way))]
        if head[0] == "order":
            return self.order_bounds(head[1], head[2], letter, way)
        run, time = self.times[head[1]]
        first, second = self.value(run, time), self.value(run, self.times[head[2]][1])
        return [self.le(first, 0, second, 0) if letter == "A" else self.le(second, 1, first, 0)]

    def look_bounds(self, v):
        run, look = self.looks[v]
        x, strict, w = self.value(run, look.time), int(look.strict), look.within
        if isinstance(look, Before):
            return [self.le(v, strict, x, 0)] + ([] if w is None else [self.le(x, 0, v, w)])
        return [self.le(x, strict, v, 0)] + ([] if w is None else [self.le(v, 0, x, w)])

    def side_bound(self, label, row, letter, found):
        run, look = self.looks[label]
        x, more = self.value(run, look.time), 0 if look.strict else 1
        if letter == "B":
            return self.le(x, more, row, 0) if isinstance(look, Before) else self.le(row, more, x, 0)
        if found:
            return self.le(row, 0, label, 0) if isinstance(look, Before) else self.le(label, 0, row, 0)
        if look.within is None:
            return "t", "t", -1
        if isinstance(look, Before):
            return self.le(row, look.within + 1, x, 0)
        return self.le(x, look.within + 1, row, 0)

    def order_bounds(self, row, other, letter, way):
        s = dict(self.setting.apart).get(self.rows(way)[row], 1)
        if letter != "B":
            return [self.le(row, s, other, 0) if letter == "A" else self.le(other, s, row, 0)]
        bounds = [self.le(row, 0, other, 0), self.le(other, 0, row, 0)]
        for late, seen in ((row, other), (other, row)):
            if self.two and late == "p" and (seen == "t" or seen.startswith("0 ")):
                bounds.append(("t", "t", -1))
        return bounds

    def stated(self, way):
        bounds = [bound for head, letter in way for bound in self.stated_by(head, letter, way)]
        if self.two:
            bounds.append(self.le("t", self.number + 1, "p", 0))
        for y, (run, time) in self.times.items():
            if isinstance(time, (Floor, Ceil)) and self.settled(run, time, way):
                x, gap = self.value(run, time.time), self.setting.grid[0] - 1
                low, high = (y, x) if isinstance(time, Floor) else (x, y)
                bounds += [self.le(low, 0, high, 0), self.le(high, 0, low, gap)]
        if self.word == "age at most":
            outcome = self.outcome(*self.runs[0], way)
            if outcome is not None and outcome[0] == "row" and self.rows(way)[outcome[1]] == self.feed:
                bounds.append(self.le(outcome[1], self.number + 1, "t", 0))
        return bounds

    def on_grid(self, name):
        if name in self.looks:
            return self.looks[name][1].feed in self.setting.on_grid
        if name in ("t", "p"):
            return (self.setting.at_rows if name == "t" else self.feed) in self.setting.on_grid
        return True

    # Outcomes.

    def outcome(self, run, reader, way):
        """None as long as it is not told."""
        if isinstance(reader, Missing):
            return ("nothing",)
        if isinstance(reader, Constant):
            return "constant", reader.number
        if isinstance(reader, Value):
            if self.finds_none(run, reader.look, way):
                return ("nothing",)
            return ("row", run + str(reader.look)) if self.found(run + str(reader.look), way) else None
        if isinstance(reader, Else):
            first = self.outcome(run, reader.first, way)
            return self.outcome(run, reader.second, way) if first == ("nothing",) else first
        if self.fails(run, reader.time, way) or self.fails(run, reader.other, way):
            return ("nothing",)
        for head, letter in way:
            if head == ("earlier", run + str(reader.time), run + str(reader.other)):
                return self.outcome(run, reader.first if letter == "A" else reader.second, way)
        return None

    def is_right(self, way):
        outcomes = [self.outcome(run, reader, way) for run, reader in self.runs]
        if None in outcomes:
            return False
        if self.word == "age at most":
            return outcomes[0][0] != "row" or self.rows(way)[outcomes[0][1]] != self.feed
        if [outcome[0] for outcome in outcomes] == ["row", "row"]:
            first, second = outcomes[0][1], outcomes[1][1]
            return first == second or "B" in self.order(first, second, way)
        return outcomes[0] == outcomes[1]

    # Nodes.

    def closes(self, node, way):
        if type(node) is not tuple or not node or type(node[0]) is not str or node[0] not in SHAPES:
            return False
        length, letters = SHAPES[node[0]]
        if len(node) != length + len(letters):
            return False
        if node[0] == "end":
            return self.is_right(way)
        if node[0] == "clash":
            return self.is_clash(node[1], way)
        head = node[:length]
        if not all(type(name) is str for name in head) or head in [above for above, _ in way]:
            return False
        if not self.meets(head, way):
            return False
        return all(self.closes(tree, way + [(head, letter)]) for letter, tree in zip(letters, node[length:]))

    def meets(self, head, way):
        rows = self.rows(way)
        if head[0] == "look":
            return head[1] in self.looks and self.settled(self.looks[head[1]][0], self.looks[head[1]][1].time, way)
        if head[0] == "side":
            if head[1] not in self.looks or self.found(head[1], way) is None or head[2] not in rows:
                return False
            run, look = self.looks[head[1]]
            return rows[head[2]] == look.feed and self.in_table(run, head[2], way)
        if head[0] == "order":
            return head[1] in rows and head[2] in rows and head[1] != head[2] and rows[head[1]] == rows[head[2]]
        if head[1] not in self.times or head[2] not in self.times:
            return False
        (run, time), (other_run, other) = self.times[head[1]], self.times[head[2]]
        return run == other_run and self.settled(run, time, way) and self.settled(run, other, way)

    def is_clash(self, chain, way):
        if type(chain) is not tuple or not chain:
            return False
        stated = self.stated(way)
        for bound in chain:
            if type(bound) is not tuple or len(bound) != 3 or type(bound[2]) is not int or bound not in stated:
                return False
        if any(chain[place][0] != chain[place - 1][1] for place in range(len(chain))):
            return False
        cuts = [place for place in range(len(chain)) if self.on_grid(chain[place][0])]
        if len(cuts) < 2:
            return sum(bound[2] for bound in chain) < 0
        total = 0
        for cut, until in zip(cuts, cuts[1:] + [cuts[0] + len(chain)]):
            piece = sum(chain[place % len(chain)][2] for place in range(cut, until))
            total += piece - piece % self.setting.grid[0]
        return total < 0
