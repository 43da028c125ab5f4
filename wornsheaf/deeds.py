"""Deeds `(source, targets)` and logs of deeds, applied to sheaves."""
from wornsheaf.errors import InvalidDeed
from wornsheaf.sheaf import Sheaf


def is_ascending(numbers):
    """Return whether the numbers are strictly ascending."""
    return all([first < second for first, second in zip(numbers, numbers[1:])])


def is_well_formed(count, deed):
    """Return whether a deed has targets, in order, all among count sheets."""
    source, targets = deed
    if not targets or not is_ascending(targets):
        return False
    return all([0 <= index < count for index in (source, *targets)])


def is_allowed(sheaf, deed, *, breadth=1):
    """Return whether the deed is allowed for the sheaf and the breadth."""
    source, targets = deed
    if len(targets) > breadth or not is_well_formed(len(sheaf), deed):
        return False
    sharpness = sheaf.sharpness_of(source)
    return all([sheaf.sharpness_of(target) < sharpness for target in targets])


def apply_deed(sheaf, deed, *, breadth=1):
    """Return the sheaf after the deed."""
    if not is_allowed(sheaf, deed, breadth=breadth):
        raise InvalidDeed(0)
    return _after(sheaf, deed)


def _after(sheaf, deed):
    """Return the sheaf after a deed that is known to be allowed."""
    source, targets = deed
    worn = (sheaf.sharpness_of(source) - 1, sheaf.record_of(source))
    rows = sheaf.rows()
    for index in (source, *targets):
        rows[index] = worn
    return Sheaf(rows)


def replay(sheaf, log, *, breadth=1):
    """Return the sheaf that the log leaves."""
    return list(each_state(sheaf, log, breadth=breadth))[-1]


def each_state(sheaf, log, *, breadth=1):
    """Yield the sheaf before the first deed, and after each deed of the log."""
    # The copy keeps what is still to come when the caller changes the log.
    deeds = list(log)
    state = sheaf
    yield state
    for position, deed in enumerate(deeds):
        if not is_allowed(state, deed, breadth=breadth):
            raise InvalidDeed(position)
        state = _after(state, deed)
        yield state


def is_complete(sheaf, log, *, breadth=1):
    """Return whether the log is allowed and leaves a level sheaf."""
    try:
        return replay(sheaf, log, breadth=breadth).is_level()
    except InvalidDeed:
        return False


def single_deeds(sheaf):
    """Return the ascending list of all allowed deeds with one target."""
    indexes = range(len(sheaf))
    deeds = [(source, (target,)) for source in indexes for target in indexes]
    return [deed for deed in deeds if is_allowed(sheaf, deed)]
