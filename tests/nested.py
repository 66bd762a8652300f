"""Times, looks and readers for several tests: some of each class, and others at random."""

import random

from latestrows.errors import TooMany
from latestrows.readers import Constant, Else, IfEarlier, Missing, Value
from latestrows.times import After, Before, Ceil, Floor, Now, RowTime, Shift


def deep(depth):
    """A time of this depth, without looks and grid times."""
    time = Now()
    for _ in range(depth - 1):
        time = Shift(time, 1)
    return time


LOOK = Before("a", Now())

# One of each class at least.
SOME_TIMES = [
    Now(),
    Shift(Now(), 0),
    Shift(Now(), -5),
    Shift(Shift(Now(), 1000000000), -1000000000),
    Floor(Now()),
    Ceil(Now()),
    Ceil(Floor(Now())),
    RowTime(LOOK),
    RowTime(After("b", Shift(RowTime(LOOK), 1))),
    deep(8),
]

SOME_LOOKS = [
    Before("a", Now()),
    Before("b", Now()),
    After("a", Now()),
    Before("a", Now(), within=0),
    Before("a", Now(), within=1000000000),
    Before("a", Now(), strict=True),
    After("a", Now(), within=3, strict=True),
    After("ab0", Floor(RowTime(LOOK)), within=3, strict=True),
    Before("a", deep(8)),
]

SOME_READERS = [
    Value(LOOK),
    Value(After("b", RowTime(LOOK))),
    Constant(0),
    Constant(-7),
    Constant(10 ** 60 - 1),
    Missing(),
    Else(Value(LOOK), Missing()),
    Else(Missing(), Value(LOOK)),
    IfEarlier(Now(), RowTime(LOOK), Constant(1), Missing()),
    IfEarlier(RowTime(LOOK), Now(), Constant(1), Missing()),
    Else(IfEarlier(Now(), Now(), Missing(), Else(Constant(1), Constant(1))), Value(LOOK)),
]


class Maker:
    """Makes times, looks and readers at random, the same ones for the same seed."""

    def __init__(self, seed, feeds=("a", "b"), numbers=(-2, -1, 0, 1, 2), bounds=(0, 1, 2, 3), grid=True):
        self.random = random.Random(seed)
        self.feeds = feeds
        self.numbers = numbers
        self.bounds = bounds
        self.grid = grid

    def time(self, looks, depth=3):
        kind = self.random.choice(["now", "now", "shift", "floor", "ceil", "row", "row"])
        if depth > 1 and kind == "shift":
            return Shift(self.time(looks, depth - 1), self.random.choice(self.numbers))
        if depth > 1 and self.grid and kind == "floor":
            return Floor(self.time(looks, depth - 1))
        if depth > 1 and self.grid and kind == "ceil":
            return Ceil(self.time(looks, depth - 1))
        if looks and kind == "row":
            return RowTime(self.random.choice(looks))
        return Now()

    def look(self, looks, depth=3):
        made = self.random.choice([Before, After])
        within = self.random.choice([None, *self.bounds])
        strict = self.random.choice([False, False, True])
        return made(self.random.choice(self.feeds), self.time(looks, depth), within=within, strict=strict)

    def looks(self, many, depth=3):
        """So many looks, each perhaps with earlier ones inside, that one reader can have."""
        while True:
            try:
                looks = []
                for _ in range(many):
                    looks.append(self.look(looks, depth))
                reader = Missing()
                for look in looks:
                    reader = Else(reader, Value(look))
                return looks
            except TooMany:
                continue

    def reader(self, looks, inner, depth=3):
        """A reader of these looks, with so many readers that have others inside."""
        while True:
            try:
                return self._reader(looks, inner, depth)
            except TooMany:
                continue

    def _reader(self, looks, inner, depth):
        if inner == 0:
            leaf = self.random.choice(["value", "value", "value", "constant", "missing"])
            if looks and leaf == "value":
                return Value(self.random.choice(looks))
            return Missing() if leaf == "missing" else Constant(self.random.choice((0, 1)))
        in_first = self.random.randrange(inner)
        first, second = self._reader(looks, in_first, depth), self._reader(looks, inner - 1 - in_first, depth)
        if self.random.random() < 0.6:
            return Else(first, second)
        return IfEarlier(self.time(looks, depth), self.time(looks, depth), first, second)
