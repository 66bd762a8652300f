"""Builds the trees that show what is so on all tables at all times (point 25)."""

from latestrows.bounds import required_in
from latestrows.scenes import ASKED, LATE, LATE_SIDE, ORDER
from latestrows.search import tried
from latestrows.steps import LOOK, ROW, open_step, steps_on
from latestrows.ways import Way

# The side of an order on which the two rows are the same.
SAME = 1


def same_tree(scene, bounds):
    """The tree that closes as the two readers of the scene, on which these bounds hold, too, give the same."""
    return Proof(None, None).tree(_start(scene, bounds))


def aged_tree(scene, feed, number):
    """The tree that closes as the reader of the scene gives no row of the feed with an age above the number."""
    return Proof(feed, number).tree(_start(scene, []))


def _start(scene, bounds):
    way = Way(scene, scene.first_bounds())
    if way.begin():
        way.keep(bounds)
    return way


class Proof:
    """What is to be shown: that the outcomes are the same, or that no row of the feed, if there is one, is older."""

    def __init__(self, feed, number):
        self.feed = feed
        self.number = number

    def tree(self, way):
        """A tree that closes on this way."""
        if way.bounds.clash is not None:
            return _clash_node(way)
        way.choices = [choice for choice in way.choices if not way.decides(choice)]
        forced = _forced_choice(way)
        if forced is not None:
            return self._choice_node(way, forced)
        question = open_step(way)
        if question is not None:
            return self._question_node(way, *question)
        steps = steps_on(way)
        return self._same_tree(way, steps) if self.feed is None else self._aged_tree(way, steps[0])

    def _same_tree(self, way, steps):
        (word, what), (other_word, other) = steps
        if word == ROW and other_word == ROW and what.feed == other.feed and what.label != other.label:
            side = _order_on(way, what.place, other.place)
            if side is None:
                return self._order_node(way, way.scene.order_choice(what.feed, what.place, other.place))
            if side == SAME:
                return ("end",)
        elif word == other_word and what == other:
            return ("end",)
        return self._choice_node(way, _broken_choice(way))

    def _aged_tree(self, way, step):
        word, what = step
        if word != ROW or what.feed != self.feed:
            return ("end",)
        if not way.keep([(what.place, ASKED, -self.number - 1)]):
            return _clash_node(way)
        return self._choice_node(way, _broken_choice(way))

    def _choice_node(self, way, choice):
        scene = way.scene
        if choice.word == ORDER:
            return self._order_node(way, choice)
        if choice.word == LATE_SIDE and _order_on(way, choice.second, LATE) is None:
            # Only behind or before the late row it is a row that the look would see.
            return self._order_node(way, scene.order_choice(scene.late, choice.second, LATE))
        trees = []
        # Of the row that might be the late one, the side of being it comes first.
        for side in choice.sides[-2:]:
            further = way.copied()
            further.keep(side)
            trees.append(self.tree(further))
        return ("side", choice.first, scene.names[choice.second], *trees)

    def _order_node(self, way, choice):
        trees = []
        for side, bounds in enumerate(choice.sides):
            further = way.copied()
            further.orders[choice.first, choice.second] = side
            further.keep(bounds)
            trees.append(self.tree(further))
        return ("order", way.scene.names[choice.first], way.scene.names[choice.second], *trees)

    def _question_node(self, way, prefix, step):
        word, what = step
        trees = []
        for answer in (True, False):
            further = way.copied()
            if word == LOOK:
                further.ask(what, answer)
            else:
                further.compare(prefix, what, answer)
            trees.append(self.tree(further))
        if word == LOOK:
            return ("look", what.label, *trees)
        return ("earlier", prefix + what.time.text, prefix + what.other.text, *trees)


def _clash_node(way):
    names = way.scene.names
    chain = required_in(way.bounds.clash)
    return ("clash", tuple([(names[x], names[y], most) for x, y, most in chain]))


def _order_on(way, row, other):
    """The side of the order of two rows that was taken on the way; None if they were not put in order."""
    if (row, other) in way.orders:
        return way.orders[row, other]
    # Read the other way round, the side that came first comes last.
    return 2 - way.orders[other, row] if (other, row) in way.orders else None


def _forced_choice(way):
    """A choice with one side at most that can be; None if there is none."""
    for choice in way.choices:
        if len(way.open_sides(choice)) <= 1:
            return choice
    return None


def _broken_choice(way):
    # There is one: integers that keep all choices would be a table and a time that show the contrary.
    _, broken = tried(way, way.bounds)
    return broken
