"""Trees (good, names, trees) that show that no lot of few entries settles a house."""

from shelfcounts.heaps import shut_rows
from shelfcounts.houses import without_entry


def holds(house, tree, many):
    """Whether the tree holds for the house and the number, of whatever thing as tree."""
    if not isinstance(tree, tuple) or len(tree) != 3:
        return False
    good, names, trees = tree
    if good not in house[1] or names not in clashing_names(house, good):
        return False
    if many == 0:
        return trees == ()
    if not isinstance(trees, tuple) or len(trees) != len(names):
        return False
    return all(holds(without_entry(house, name), part, many - 1) for name, part in zip(names, trees))


def clashing_names(house, good):
    """The names of each row of a shut heap of the good whose sum is other than 0."""
    return [names for names, total in shut_rows(house, good) if total != 0]


def tree_for(house, many):
    """A tree that holds for the house and the number, where no lot of at most so many entries settles the house."""
    rows = [(good, names) for good in house[1] for names in clashing_names(house, good)]
    # Of fewer names fewer trees come.
    good, names = min(rows, key=lambda row: len(row[1]))
    if many == 0:
        return (good, names, ())
    return (good, names, tuple(tree_for(without_entry(house, name), many - 1) for name in names))
