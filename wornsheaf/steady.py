"""Near and far deeds, and the logs that consist of them."""
from wornsheaf.deeds import is_allowed


def is_near(sheaf, deed):
    """Return whether the deed is allowed and passes over no sharpness."""
    if not is_allowed(sheaf, deed):
        return False
    source, targets = deed
    high = sheaf.sharpness_of(source)
    low = sheaf.sharpness_of(targets[0])
    return not any([low < row[0] < high for row in sheaf])


def is_far(sheaf, deed):
    """Return whether the deed is allowed and goes from the top to the bottom."""
    if not is_allowed(sheaf, deed):
        return False
    source, targets = deed
    ends_of_deed = (sheaf.sharpness_of(source), sheaf.sharpness_of(targets[0]))
    return ends_of_deed == (sheaf.top, sheaf.bottom)


def near_log(sheaf):
    """Return a complete log of near deeds."""
    return _log_from_top(sheaf, _next_to_top)


def far_log(sheaf):
    """Return a complete log of far deeds."""
    return _log_from_top(sheaf, _bottom)


def _log_from_top(sheaf, aim):
    """Return a complete log from the top to the sharpness that aim tells."""
    # While a sharpness is the top, no sheet rises to it and each deed takes
    # one sheet off it. Point 27 puts the end above the top minus the number
    # of sheets n, so there are fewer than n tops with at most n deeds each.
    sharpnesses = [row[0] for row in sheaf]
    log = []
    while min(sharpnesses) < max(sharpnesses):
        top = max(sharpnesses)
        source = sharpnesses.index(top)
        target = sharpnesses.index(aim(sharpnesses))
        sharpnesses[source] = top - 1
        sharpnesses[target] = top - 1
        log.append((source, (target,)))
    return log


def _next_to_top(sharpnesses):
    """Return the greatest sharpness below the top."""
    top = max(sharpnesses)
    return max([sharpness for sharpness in sharpnesses if sharpness < top])


def _bottom(sharpnesses):
    """Return the least sharpness."""
    return min(sharpnesses)
