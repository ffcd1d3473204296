"""Plans, which say how nodes are merged in pairs."""

from forkedshelves.errors import PlanClash
from forkedshelves.graph import check_nodes
from forkedshelves.heads import clash_of, merged_book


def plan_nodes(plan):
    """Return the list of the nodes of a plan from left to right."""
    if isinstance(plan, tuple):
        first, second = plan
        return plan_nodes(first) + plan_nodes(second)
    return [plan]


def play_plan(history, plan):
    """Merge as a plan says, and return the merged book of all its nodes."""
    nodes = plan_nodes(plan)
    check_nodes(history, nodes)
    _check_merges(history, plan)
    return merged_book(history, nodes)


def _check_merges(history, plan):
    """Raise PlanClash for the first merge of a plan that is not clean."""
    if isinstance(plan, tuple):
        first, second = plan
        _check_merges(history, first)
        _check_merges(history, second)
        nodes = plan_nodes(plan)
        if clash_of(history, nodes) is not None:
            raise PlanClash(nodes)
