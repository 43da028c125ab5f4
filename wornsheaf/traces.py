"""What a log tells of the first sharpnesses: lines, rings, gaps and heights."""
from wornsheaf.errors import ContradictoryLog
from wornsheaf.lineage import check_log, first_marks, lineage, marks_after


def lines(count, log):
    """Return a tuple `(position, target, upper, lower, gain)` for each line."""
    check_log(count, log)
    marks = first_marks(count)
    found = []
    for position, deed in enumerate(log):
        upper, wear = marks[deed[0]]
        for target in deed[1]:
            lower, worn = marks[target]
            found.append((position, target, upper, lower, 1 + wear - worn))
        marks = marks_after(marks, deed)
    return found


def find_ring(count, log):
    """Return a ring of the log, or None if there is none."""
    _, raisers, restless = _settle(count, lines(count, log))
    if restless is None:
        return None
    sheet = restless
    # Each step goes to a sheet that was raised in the same pass or in the one
    # before, so as many steps as there were passes can be taken. They come by
    # some sheet twice, and from then on they go round a ring.
    for _ in range(count):
        sheet = raisers[sheet][3]
    ring = []
    at = sheet
    while not ring or at != sheet:
        ring.append(raisers[at][:2])
        at = raisers[at][3]
    return ring


def is_ring(count, log, ring):
    """Return whether the list of tuples `(position, target)` is a ring of the log."""
    told = {line[:2]: line[2:] for line in lines(count, log)}
    if not ring or len(set(ring)) != len(ring):
        return False
    if not all([pair in told for pair in ring]):
        return False
    for place, pair in enumerate(ring):
        # In front of the first line stands the last one.
        if told[ring[place - 1]][1] != told[pair][0]:
            return False
    return sum([told[pair][2] for pair in ring]) >= 1


def least_start(count, log):
    """Return the least first sharpnesses for which the log is allowed."""
    return _resting(count, lines(count, log))


def told_gap(count, log, upper, lower):
    """Return by how much one sheet is sharper than another at first, at least."""
    told = lines(count, log)
    _resting(count, told)
    gaps = {lower: 0}
    rising = True
    # Without a ring no way of lines is better for going round, so this ends.
    while rising:
        rising = False
        for _, _, high, low, gain in told:
            if low in gaps and (high not in gaps or gaps[high] < gaps[low] + gain):
                gaps[high] = gaps[low] + gain
                rising = True
    return gaps.get(upper)


def told_heights(count, log):
    """Return how far above the end each origin was, or None if wears differ."""
    heights = [None] * count
    for origin, wear in lineage(count, log):
        if heights[origin] not in (None, wear):
            return None
        heights[origin] = wear
    return heights


def _settle(count, told):
    """Return the first sharpnesses, lifted from 0 until no line asks for more.

    Besides, the line that lifted each sheet last, and a sheet that was lifted
    in the last pass, or None if all came to rest.
    """
    heights = [0] * count
    raisers = {}
    restless = None
    # Without a ring a sheet is lifted by ways that pass each sheet once at
    # most, so the last of these passes lifts nothing.
    for _ in range(count):
        restless = None
        for line in told:
            _, _, upper, lower, gain = line
            if heights[upper] < heights[lower] + gain:
                heights[upper] = heights[lower] + gain
                raisers[upper] = line
                restless = upper
        if restless is None:
            break
    return heights, raisers, restless


def _resting(count, told):
    """Return the first sharpnesses at rest, or raise ContradictoryLog."""
    heights, _, restless = _settle(count, told)
    if restless is not None:
        raise ContradictoryLog(_first_contradiction(count, told))
    return heights


def _first_contradiction(count, told):
    """Return the least position up to which the lines have a ring."""
    # A longer part of the log has all rings of a shorter one.
    low = 0
    high = told[-1][0]
    while low < high:
        middle = (low + high) // 2
        _, _, restless = _settle(count, [line for line in told if line[0] <= middle])
        if restless is None:
            low = middle + 1
        else:
            high = middle
    return low
