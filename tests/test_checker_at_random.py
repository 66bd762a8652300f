"""Trees that were built, and ones that were changed at random: the checker says what point 25 says word by word."""

import random
import unittest

from latestrows.certificates import certify_age, certify_alike, certify_late
from latestrows.checker import holds
from latestrows.errors import TooMany
from latestrows.settings import Setting
from latestrows.texts import read_reader
from latestrows.times import Now

from nested import Maker
from plain_trees import SHAPES, PlainTree, plain_closes

SETTINGS = [
    "any", "apart a 2", "at a", "at b", "apart a 3; at a", "grid 2 0", "grid 3 1", "grid 2 1; on a",
    "grid 4 1; on a; at a", "grid 2 0; apart a 3; at a", "grid 5 0; apart a 7; on a; on b; at b",
    "grid 60 59; apart a 61; at a", "grid 3 0; apart b 4; on b; at b",
]


def trees_in(node):
    """The indexes of the trees in a node."""
    first, letters = SHAPES[node[0]]
    return range(first, first + len(letters))


def paths(node, path=()):
    yield path
    for index in trees_in(node):
        yield from paths(node[index], (*path, index))


def inside(node, path):
    for index in path:
        node = node[index]
    return node


def put(node, path, new):
    if not path:
        return new
    return node[:path[0]] + (put(node[path[0]], path[1:], new),) + node[path[0] + 1:]


class Changer:
    """Changes trees at random, mostly so that they are still trees of nodes with the right lengths."""

    def __init__(self, seed, claim):
        self.random = random.Random(seed)
        plain = PlainTree(claim)
        self.names = [*plain.looks, *plain.times, "t", "p"]

    def changed(self, tree):
        path = self.random.choice(list(paths(tree)))
        node = inside(tree, path)
        if node[0] == "clash" and self.random.random() < 0.8:
            return put(tree, path, ("clash", self.chain(list(node[1]))))
        way = self.random.choice([self.child, self.swapped, self.renamed, self.wrapped, self.turned, self.end])
        return put(tree, path, way(node))

    def chain(self, chain):
        place = self.random.randrange(len(chain))
        kind = self.random.randrange(4)
        if kind == 0:
            first, second, most = chain[place]
            chain[place] = (first, second, most + self.random.choice((-60, -2, -1, 1, 5)))
        elif kind == 1:
            chain = chain[place:] + chain[:place]
        elif kind == 2:
            chain = chain + chain
        else:
            chain.append(chain[place])
        return tuple(chain)

    def child(self, node):
        return node[self.random.choice(trees_in(node))] if len(trees_in(node)) > 0 else node

    def swapped(self, node):
        if len(trees_in(node)) == 0:
            return node
        first, second = self.random.sample(trees_in(node), 2)
        return put(put(node, (first,), node[second]), (second,), node[first])

    def renamed(self, node):
        if len(trees_in(node)) == 0:
            return node
        return put(node, (self.random.randrange(1, trees_in(node)[0]),), self.random.choice(self.names))

    def wrapped(self, node):
        word = self.random.choice(["look", "side", "order", "earlier"])
        first, letters = SHAPES[word]
        return (word, *[self.random.choice(self.names) for _ in range(first - 1)], *[node] * len(letters))

    def turned(self, node):
        return ("order", node[2], node[1], node[5], node[4], node[3]) if node[0] == "order" else node

    def end(self, _):
        return ("end",)


class CheckerAtRandomTest(unittest.TestCase):
    def certificates(self, seed):
        """Claims about small readers, with their certificates, where these are trees."""
        setting = Setting.read(SETTINGS[seed % len(SETTINGS)])
        maker = Maker(seed, feeds="a" if seed % 3 == 0 else "ab", grid=setting.grid is not None)
        looks = maker.looks(seed % 3 + 1)
        reader = maker.reader(looks, seed % 5)
        pairs = [certify_alike(reader, maker.reader(looks, seed % 4), setting)]
        try:
            pairs.append(certify_alike(reader, reader.at(Now() + 0), setting))
        except TooMany:
            pass
        for feed in "ab":
            for number in (-3, -1, 0, 1, 3, 10):
                pairs.append(certify_age(reader, feed, number, setting))
                pairs.append(certify_late(reader, feed, number, setting))
        return [(claim, tree) for claim, tree in pairs if claim[0] in ("alike", "age at most", "unchanged")]

    def test_changed_trees(self):
        verdicts = {True: 0, False: 0}
        for seed in range(60):
            for claim, tree in self.certificates(seed):
                self.assertIs(plain_closes(claim, tree), True)
                changer = Changer(seed, claim)
                for number in range(12):
                    other = tree
                    for _ in range(number % 3 + 1):
                        other = changer.changed(other)
                    closes = plain_closes(claim, other)
                    self.assertIs(holds(claim, other), closes, (claim, other))
                    verdicts[closes] += 1
        self.assertGreater(min(verdicts.values()), 1000)

    def test_the_same_tree_for_other_claims(self):
        """What the tree shows of other numbers and settings is true."""
        verdicts = {True: 0, False: 0}
        for seed in range(40):
            for claim, tree in self.certificates(seed):
                others = [(*claim[:-1], text) for text in SETTINGS]
                if len(claim) == 5:
                    others += [(*claim[:3], claim[3] + off, claim[4]) for off in (-7, -1, 1, 7)]
                for other in others:
                    if not self.is_asked(other):
                        self.assertIs(holds(other, tree), False)
                        continue
                    closes = plain_closes(other, tree)
                    self.assertIs(holds(other, tree), closes, (other, tree))
                    verdicts[closes] += 1
                    if closes:
                        self.assertEqual(self.certified(other)[0], other)
        self.assertGreater(min(verdicts.values()), 300)

    def is_asked(self, claim):
        readers = [read_reader(text) for text in (claim[1:3] if claim[0] == "alike" else claim[1:2])]
        return Setting.read(claim[-1]).grid is not None or not any(reader.grid_times for reader in readers)

    def certified(self, claim):
        setting = Setting.read(claim[-1])
        if claim[0] == "alike":
            return certify_alike(read_reader(claim[1]), read_reader(claim[2]), setting)
        certify = certify_age if claim[0] == "age at most" else certify_late
        return certify(read_reader(claim[1]), claim[2], claim[3], setting)


if __name__ == "__main__":
    unittest.main()
