"""Origins and wears of sheets, and entries that undo deeds."""
from wornsheaf.deeds import apply_deed, is_allowed, is_well_formed
from wornsheaf.errors import InvalidDeed, InvalidEntry
from wornsheaf.sheaf import Sheaf, valid_record


def check_log(count, log):
    """Raise InvalidDeed for the first deed that no count sheets could have."""
    for position, deed in enumerate(log):
        source, targets = deed
        if source in targets or not is_well_formed(count, deed):
            raise InvalidDeed(position)


def lineage(count, log):
    """Return the tuple `(origin, wear)` of each sheet after the log."""
    check_log(count, log)
    marks = first_marks(count)
    for deed in log:
        marks = marks_after(marks, deed)
    return marks


def first_marks(count):
    """Return the tuple `(origin, wear)` of each sheet before the first deed."""
    return [(index, 0) for index in range(count)]


def marks_after(marks, deed):
    """Return the tuples `(origin, wear)` after a deed that is well formed."""
    source, targets = deed
    origin, wear = marks[source]
    after = list(marks)
    for index in (source, *targets):
        after[index] = (origin, wear + 1)
    return after


def first_shares(count, log):
    """Return for each sheet how many sheets have it as their origin."""
    shares = [0] * count
    for mark in lineage(count, log):
        shares[mark[0]] += 1
    return shares


def apply_with_entry(sheaf, deed, *, breadth=1):
    """Return the sheaf after the deed, and the entry that undoes the deed."""
    after = apply_deed(sheaf, deed, breadth=breadth)
    source, targets = deed
    before = [
        (index, sheaf.sharpness_of(index), sheaf.record_of(index))
        for index in (source, *targets)
    ]
    return after, (deed, tuple(before))


def undo_entry(sheaf, entry):
    """Return the sheaf before the deed of the entry."""
    deed, before = entry
    if not _can_be_put_back(sheaf, deed, before):
        raise InvalidEntry()
    rows = sheaf.rows()
    for index, sharpness, record in before:
        rows[index] = (sharpness, record)
    earlier = Sheaf(rows)
    if not _leads_to(earlier, deed, sheaf):
        raise InvalidEntry()
    return earlier


def _can_be_put_back(sheaf, deed, before):
    """Return whether the rows of an entry are rows of the sheets of the deed."""
    source, targets = deed
    indexes = [row[0] for row in before]
    return (
        indexes == [source, *targets]
        and all([0 <= index < len(sheaf) for index in indexes])
        and all([valid_record(row[2]) for row in before])
    )


def _leads_to(earlier, deed, later):
    """Return whether the deed, with any number of targets, gives the later sheaf."""
    breadth = len(deed[1])
    if not is_allowed(earlier, deed, breadth=breadth):
        return False
    return apply_deed(earlier, deed, breadth=breadth) == later


def past_deed(sheaf):
    """Return a sheaf and a deed that turns it into the given one, or None."""
    first_sheets = {}
    for index, row in enumerate(sheaf):
        if row in first_sheets:
            return _sheaf_before(sheaf, first_sheets[row], index)
        first_sheets[row] = index
    return None


def _sheaf_before(sheaf, source, target):
    """Return the sheaf and the deed by which equal rows came about."""
    # The target may have been any fainter sheet: its row can stay as it is.
    rows = sheaf.rows()
    rows[source] = (sheaf.sharpness_of(source) + 1, sheaf.record_of(source))
    return Sheaf(rows), (source, (target,))
