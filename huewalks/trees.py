"""The shape of the trees that refusals are, whatever the question they answer."""

from huewalks.checks import first_outside, is_between, is_sequence

MOST_LABEL = 9999
MOST_SPLITS = 13
MOST_HUE_TREES = 10
MOST_TREES_BELOW = 200
MOST_TREES = 20000


def is_triple(value):
    """True for a sequence of three members, as each tree is one."""
    return is_sequence(value) and len(value) == 3


def measure(tree):
    """The number of all trees in the tree and the most branches on a path; None if it is not well formed."""
    as_cases = measure_cases(tree)
    return measure_hues(tree) if as_cases is None else as_cases


def measure_cases(tree):
    """As measure, of trees of clashes and splits alone."""
    return _measure_kind("clash", "split", MOST_SPLITS, MOST_TREES, tree)


def measure_hues(tree):
    """As measure, of trees of the forms road and hue alone."""
    return _measure_kind("road", "hue", MOST_HUE_TREES, MOST_TREES, tree)


def is_label(value):
    """True for an integer that a text of papers may have."""
    return is_between(0, MOST_LABEL, value)


def are_labels(value):
    """True for a sequence of integers that a text of papers may have."""
    return is_sequence(value) and first_outside(0, MOST_LABEL, value) is None


def _measure_kind(leaf, branch, deep, room, tree):
    """As measure, of a tree of these two forms with at most deep branches on a path and room for so many trees."""
    if room < 1 or not is_triple(tree):
        return None
    word, first, second = tree
    if word == leaf and _is_leaf_data(leaf, first, second):
        return (1, 0)
    if word != branch or deep < 1 or not _is_branch_data(branch, first, second):
        return None
    size = 1
    depth = 1
    for below in second:
        # The room is what keeps the work small where one tree stands in many places.
        found = _measure_kind(leaf, branch, deep - 1, room - size, below)
        if found is None:
            return None
        size = size + found[0]
        depth = max(depth, found[1] + 1)
    return (size, depth)


def _is_leaf_data(leaf, first, second):
    """True for the members behind the word of a tree without trees below it."""
    if leaf == "clash":
        return is_label(first) and is_label(second)
    return is_label(first) and _are_walk_labels(second)


def _is_branch_data(branch, first, second):
    """True for the members behind the word of a tree with trees below it, whatever these trees are."""
    named = is_label(first) if branch == "split" else _are_walk_labels(first)
    return named and is_sequence(second) and len(second) <= MOST_TREES_BELOW


def _are_walk_labels(value):
    """True for a sequence of places that a road or a walk in a text of papers may have."""
    return is_sequence(value) and len(value) <= MOST_LABEL and are_labels(value)
