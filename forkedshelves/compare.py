"""Comparisons of two trees of a forest that look only where the trees differ."""


def differing_places(forest, first, second):
    """Return the ascending list of the places at which two trees do not agree."""
    return [start for start, size, same in _walk(forest, first, second) if size == 1 and not same]


def agreeing_blocks(forest, first, second):
    """Return the ascending list of the largest blocks at which two trees have the same part or both none."""
    return [(start, size) for start, size, same in _walk(forest, first, second) if same]


def looked(forest, first, second):
    """Return the number of blocks at which a walk over two trees looks."""
    return len(_walk(forest, first, second))


def _walk(forest, first, second):
    """Return (start, size, same) for each block at which the walk looks, lower places first."""
    rows = []
    waiting = [(0, 1 << forest.depth)]
    while waiting:
        start, size = waiting.pop()
        same = forest.part_at(first, start, size) == forest.part_at(second, start, size)
        rows.append((start, size, same))
        if size > 1 and not same:
            half = size // 2
            waiting.extend([(start + half, half), (start, half)])
    return rows
