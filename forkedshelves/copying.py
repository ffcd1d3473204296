"""How many parts are copied when trees are merged by a plan."""

from forkedshelves.blocks import blocks_with
from forkedshelves.leaves import merged_table, table_of


def plan_copies(forest, base, plan):
    """Carry out a tree plan over a base, and return the last tree and the number of parts made."""
    tables = {tree: table_of(forest.leaves(tree)) for tree in [base] + _trees_of(plan)}
    # A clash must leave no tree behind, so the merges are tried on tables first.
    _planned_table(tables, base, plan)
    made_before = forest.made()
    tree = _planned_tree(forest, base, plan)
    return tree, forest.made() - made_before


def expected_copies(depth, groups):
    """Return for all blocks together how many of the groups of places meet there beyond the first one."""
    meeting = {}
    for places in groups:
        for block in _blocks_of(depth, places):
            meeting[block] = meeting.get(block, 0) + 1
    return sum([many - 1 for many in meeting.values()])


def _blocks_of(depth, places):
    """Return the ascending list of the blocks that contain at least one of the places."""
    return sorted({block for place in places for block in blocks_with(depth, place)})


def _trees_of(plan):
    """Return the trees of a plan from left to right."""
    if isinstance(plan, tuple):
        first, second = plan
        return _trees_of(first) + _trees_of(second)
    return [plan]


def _planned_table(tables, base, plan):
    """Return the table of the leaves that a plan leads to."""
    if isinstance(plan, tuple):
        first, second = plan
        left = _planned_table(tables, base, first)
        return merged_table(tables[base], left, _planned_table(tables, base, second))
    return tables[plan]


def _planned_tree(forest, base, plan):
    """Make the trees of a plan, and return the last one."""
    if isinstance(plan, tuple):
        first, second = plan
        left = _planned_tree(forest, base, first)
        return forest.merge(base, left, _planned_tree(forest, base, second))
    return plan
