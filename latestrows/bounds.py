"""Bounds for the differences of unknown integers, some of which stand on a grid (point 17)."""


def no_bounds(many, on_grid, grid):
    """The bounds of so many unknowns of which nothing is known but which of them are on the grid."""
    lines = [[0 if x == y else None for y in range(many)] for x in range(many)]
    chains = [[None] * many for _ in range(many)]
    return Bounds(lines, chains, on_grid, grid)


def required_in(chain):
    """The bounds that were required, and that the chain comes from, in the order in which they join."""
    found = []
    left = [chain]
    while left:
        part = left.pop()
        if part is None:
            continue
        first, second, third = part
        if isinstance(first, int):
            found.append(part)
        else:
            left.extend([third, second, first])
    return found


class Bounds:
    """How great the difference X - Y can be at most, for any two of the unknowns 0, 1, 2 and so on.

    `lines[X][Y]` is this bound; it is None if there is none. It is never
    greater than the bounds of X - Z and of Z - Y together, and between two
    unknowns on the grid it is a multiple of the step. So integers that keep all
    bounds exist exactly if no X - X would have to be below 0.

    `chains[X][Y]` tells where it comes from: it is None for no bound and for
    X - X, and otherwise the triple of the chain from X, of a bound (X, Y, C) that
    was required (or None), and of the chain to Y. If the
    bounds cannot be kept, `clash` is the chain of an X - X that is below 0.
    """

    def __init__(self, lines, chains, on_grid, grid):
        self.lines = lines
        self.chains = chains
        self.on_grid = on_grid
        self.grid = grid
        self.clash = None

    def copied(self):
        lines = [list(line) for line in self.lines]
        return Bounds(lines, [list(line) for line in self.chains], self.on_grid, self.grid)

    def rules_out(self, x, y, most):
        """Whether x - y <= most cannot be, as y - x is bounded, too."""
        back = self.lines[y][x]
        return back is not None and back + most < 0

    def holds(self, x, y, most):
        """Whether x - y <= most follows from the bounds."""
        known = self.lines[x][y]
        return known is not None and known <= most

    def require(self, x, y, most):
        """Adds x - y <= most; tells whether there still are integers that keep all bounds."""
        required = (x, y, most)
        if self.rules_out(x, y, most):
            self.clash = (required, None, self.chains[y][x])
            return False
        if self.holds(x, y, most):
            return True
        self._join(x, y, most, required)
        if not self._round_down():
            return True
        for middle in self.on_grid:
            self._join(middle, middle, 0, None)
        for z, line in enumerate(self.lines):
            if line[z] < 0:
                self.clash = self.chains[z][z]
                return False
        return True

    def _join(self, x, y, most, required):
        """Lowers each bound that is greater than what the way over x - y <= most comes to."""
        to_end = self.chains[y]
        behind = [(z, most + known, to_end[z]) for z, known in enumerate(self.lines[y]) if known is not None]
        for line, chains in zip(self.lines, self.chains):
            ahead = line[x]
            if ahead is None:
                continue
            from_start = chains[x]
            for z, rest, chain in behind:
                known = line[z]
                if known is None or ahead + rest < known:
                    line[z] = ahead + rest
                    chains[z] = (from_start, required, chain)

    def _round_down(self):
        """Rounds the bounds between unknowns on the grid; tells whether one of them has become smaller."""
        smaller = False
        for x in self.on_grid:
            line = self.lines[x]
            for y in self.on_grid:
                if line[y] is not None and line[y] % self.grid[0] != 0:
                    line[y] -= line[y] % self.grid[0]
                    smaller = True
        return smaller

    def greatest(self, x, y):
        """The greatest difference x - y of integers that keep all bounds; None if there is no greatest one."""
        most = self.lines[x][y]
        if most is None or not self.on_grid:
            return most
        # With a grid the bound itself may be too great: it can need x and y at two places between the
        # points of the grid at once. But less than a step below it there always is a place for them.
        least = most - self.grid[0] + 1
        while least < most:
            middle = (least + most + 1) // 2
            if self.copied().require(y, x, -middle):
                least = middle
            else:
                most = middle - 1
        return most

    def solution(self, unknowns, highest):
        """Integers for these unknowns that keep all bounds, each as high as those before it let it be, or as low."""
        start = 0 if self.grid is None else self.grid[1]
        values = {}
        # Whatever fits among the unknowns on the grid leaves room for the other ones, but not the other way round.
        for x in [*self.on_grid, *unknowns]:
            if x in unknowns and x not in values:
                values[x] = self._value_beside(x, values, start, highest)
        return values

    def _value_beside(self, x, values, start, highest):
        most = [values[y] + self.lines[x][y] for y in values if self.lines[x][y] is not None]
        least = [values[y] - self.lines[y][x] for y in values if self.lines[y][x] is not None]
        if most and (highest or not least):
            return min(most)
        return max(least) if least else start
