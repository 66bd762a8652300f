"""Judges the trees that go through all ways (point 25)."""

from latestrows.branches import first_branch
from latestrows.cases import Case
from latestrows.kinds import is_integer

# How many trees there are in a node, and how many strings stand between its word and them.
TREES = {"look": 2, "side": 2, "order": 3, "earlier": 2}
NAMES = {"look": 1, "side": 2, "order": 2, "earlier": 2}


def closes(claim, tree):
    """Whether the tree closes for the claim."""
    case = Case(claim)
    left = [(tree, first_branch(case))]
    while left:
        node, branch = left.pop()
        further = _judged(node, branch)
        if further is None:
            return False
        left.extend(further)
    return True


def _judged(node, branch):
    """The trees in the node, each with what holds further on; None if the node does not meet its condition."""
    if not isinstance(node, tuple) or len(node) == 0 or not isinstance(node[0], str):
        return None
    word = node[0]
    if word == "end":
        return [] if len(node) == 1 and branch.is_decided() else None
    if word == "clash":
        return [] if len(node) == 2 and _is_clash(node[1], branch) else None
    if word not in TREES or len(node) != 1 + NAMES[word] + TREES[word]:
        return None
    names, trees = node[1:1 + NAMES[word]], node[1 + NAMES[word]:]
    if not all([isinstance(name, str) for name in names]) or (word, *names) in branch.above:
        return None
    branches = _branches(word, names, branch)
    return None if branches is None else list(zip(trees, branches))


def _branches(word, names, branch):
    if word == "look":
        return branch.behind_look(*names)
    if word == "side":
        return branch.behind_side(*names)
    if word == "order":
        return branch.behind_order(*names)
    return branch.behind_earlier(*names)


def _is_clash(chain, branch):
    if not isinstance(chain, tuple) or len(chain) == 0 or not all([_is_bound(bound) for bound in chain]):
        return False
    stated = branch.stated()
    if not all([bound in stated for bound in chain]):
        return False
    behind = [*chain[1:], chain[0]]
    return all([one[1] == following[0] for one, following in zip(chain, behind)]) and _is_below_zero(chain, branch)


def _is_bound(value):
    if not isinstance(value, tuple) or len(value) != 3:
        return False
    first, second, most = value
    return isinstance(first, str) and isinstance(second, str) and is_integer(most)


def _is_below_zero(chain, branch):
    cuts = [place for place, bound in enumerate(chain) if branch.case.is_on_grid(bound[0])]
    if len(cuts) <= 1:
        return sum([most for _, _, most in chain]) < 0
    # From the first cut on, so that no piece has to run on into the first one.
    total = piece = 0
    for first, _, most in [*chain[cuts[0]:], *chain[:cuts[0]]]:
        if branch.case.is_on_grid(first):
            total += branch.case.rounded(piece)
            piece = 0
        piece += most
    return total + branch.case.rounded(piece) < 0
