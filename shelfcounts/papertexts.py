"""Texts of what is told of ties, and of trees."""

NONE = "."


def told_text(paper):
    """The text of what is told of a tie."""
    if paper[0] == "known":
        return f"known {paper[1]} {side_text(paper[2])}"
    return f"free {ring_text(paper[1])}"


def side_text(side):
    """The text of a side."""
    if side == []:
        return NONE
    return " ".join(f"{track}:{number}" for track, number in side)


def ring_text(ring):
    """The text of a ring."""
    if ring == []:
        return NONE
    return " ".join(step_text(tie, forth) for tie, forth in ring)


def step_text(tie, forth):
    """The text of one step of a ring."""
    sign = "+" if forth else "-"
    return f"{sign}{tie[0]}:{tie[1]}"


def tree_text(tree):
    """The text of a tree."""
    good, names, trees = tree
    within = " ".join(tree_text(part) for part in trees)
    told = " ".join(names)
    return f"{good}[{told}]({within})"
