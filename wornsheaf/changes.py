"""Sheaves with a sheet more, less or sharper, and what it takes to move an end."""
from wornsheaf.ends import cap, low_end, reach
from wornsheaf.sheaf import Sheaf


def with_sheet(sheaf, sharpness, record):
    """Return the sheaf with one more sheet behind the others."""
    return Sheaf(sheaf.rows() + [(sharpness, record)])


def without_sheet(sheaf, index):
    """Return the sheaf without that sheet."""
    return Sheaf([row for place, row in enumerate(sheaf) if place != index])


def sharpened(sheaf, index, steps):
    """Return the sheaf in which that sheet is sharper by the steps."""
    rows = sheaf.rows()
    rows[index] = (sheaf.sharpness_of(index) + steps, sheaf.record_of(index))
    return Sheaf(rows)


def sheets_to_lower(sheaf, end):
    """Return the sharpnesses of the fewest sheets that lower the low end so far."""
    return list(range(low_end(sheaf) - 1, end - 1, -1))


def lifts_to_raise(sheaf, end, *, breadth=1):
    """Return the least number of sharpenings that raise the high end so far."""
    top_cap = cap(sheaf.top, end, breadth=breadth)
    missing = len(sheaf) - reach(sheaf, end, breadth=breadth) + top_cap
    # One sheet that has the top gets all sharpenings. Fainter than the end
    # all sheets together reach nothing, so it has to be lifted up to there.
    sharpness = max(sheaf.top, end)
    while cap(sharpness, end, breadth=breadth) < missing:
        sharpness += 1
    return sharpness - sheaf.top


def side_by_side(first_count, first_log, second_log):
    """Return the first log and the second one, moved behind the first sheaf."""
    moved = [
        (source + first_count, tuple([target + first_count for target in targets]))
        for source, targets in second_log
    ]
    return list(first_log) + moved
