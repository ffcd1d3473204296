"""Blocks of places, which are halved down to single places."""


def blocks_with(depth, place):
    """Return the blocks that contain a place, from the smallest to the largest."""
    blocks = []
    size = 1
    for _ in range(depth + 1):
        blocks.append((place - place % size, size))
        size *= 2
    return blocks


def least_cover(depth, places):
    """Return the ascending list of the largest blocks that contain only the places."""
    wanted = {place: True for place in places}
    return _cover(wanted, 0, 1 << depth)


def _cover(wanted, start, size):
    """Return the largest blocks within a block that contain only wanted places."""
    if size == 1:
        return [(start, 1)] if start in wanted else []
    half = size // 2
    left = _cover(wanted, start, half)
    right = _cover(wanted, start + half, half)
    if left == [(start, half)] and right == [(start + half, half)]:
        return [(start, size)]
    return left + right
