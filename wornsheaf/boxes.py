"""Ends of lists of sharpnesses of which each lies between a low and a high."""
from wornsheaf.ends import high_end, low_end
from wornsheaf.errors import InvalidBox
from wornsheaf.sheaf import Sheaf


def box_ends(box, *, breadth=1):
    """Return the ends that are possible for some list that fits."""
    lows, highs = _corners(box)
    return list(range(low_end(lows), high_end(highs, breadth=breadth) + 1))


def sure_ends(box, *, breadth=1):
    """Return the ends that are possible for every list that fits."""
    lows, highs = _corners(box)
    return list(range(low_end(highs), high_end(lows, breadth=breadth) + 1))


def low_ends(box):
    """Return the low ends of the lists that fit."""
    lows, highs = _corners(box)
    return list(range(low_end(lows), low_end(highs) + 1))


def high_ends(box, *, breadth=1):
    """Return the high ends of the lists that fit."""
    lows, highs = _corners(box)
    first = high_end(lows, breadth=breadth)
    return list(range(first, high_end(highs, breadth=breadth) + 1))


def list_with_end(box, end, *, breadth=1):
    """Return a list that fits and for which the end is possible, or None."""
    if end not in box_ends(box, breadth=breadth):
        return None
    # Either this list is that of all highs, or one more lift has a low end
    # above the end; then the end is the low end of this list.
    return _last_list(box, low_end, end)


def list_without_end(box, end, *, breadth=1):
    """Return a list that fits and for which the end is not possible, or None."""
    lows, highs = _corners(box)
    if end < low_end(highs):
        return [row[0] for row in highs]
    if end > high_end(lows, breadth=breadth):
        return [row[0] for row in lows]
    return None


def list_with_low(box, low):
    """Return a list that fits and has that low end, or None."""
    if low not in low_ends(box):
        return None
    return _last_list(box, low_end, low)


def list_with_high(box, high, *, breadth=1):
    """Return a list that fits and has that high end, or None."""
    if high not in high_ends(box, breadth=breadth):
        return None

    def measure(sheaf):
        return high_end(sheaf, breadth=breadth)

    return _last_list(box, measure, high)


def drops(counts):
    """Return the ascending list of the drops of all sheaves with these counts."""
    return list(range(len(counts) - 1, sum(counts) - counts[-1] + 1))


def kinds_with_drop(counts, drop):
    """Return sharpnesses of the kinds with which the sheaf has that drop, or None."""
    if drop not in drops(counts):
        return None
    # The faintest kind shows the drop. Each kind above it is one step sharper
    # and has at least one sheet more below it, so it tells no greater end.
    return list(range(-drop, len(counts) - 1 - drop)) + [0]


def _corners(box):
    """Return the sheaves of all lows and of all highs."""
    if not box:
        raise InvalidBox(0)
    for index, (low, high) in enumerate(box):
        if low > high:
            raise InvalidBox(index)
    return _sheaf([low for low, _ in box]), _sheaf([high for _, high in box])


def _sheaf(sharpnesses):
    """Return a sheaf with these sharpnesses; its record does not matter."""
    return Sheaf([(sharpness, "a") for sharpness in sharpnesses])


def _last_list(box, measure, most):
    """Return the last list, on the way from lows to highs, measured at most so."""
    # Each lift raises a low end or a high end by 0 or 1 (point 32): the way
    # meets every number between, and the list can be found by halving.
    few = 0
    many = sum([high - low for low, high in box])
    while few < many:
        middle = (few + many + 1) // 2
        if measure(_sheaf(_lifted(box, middle))) > most:
            many = middle - 1
        else:
            few = middle
    return _lifted(box, few)


def _lifted(box, lifts):
    """Return the lows after so many lifts, given to one sheet after the other."""
    left = lifts
    sharpnesses = []
    for low, high in box:
        lift = min(left, high - low)
        sharpnesses.append(low + lift)
        left -= lift
    return sharpnesses
