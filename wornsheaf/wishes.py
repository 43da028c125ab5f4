"""Wishes: at least and at most so many sheets for each record at the end."""
from wornsheaf.demands import can_meet, falling_sheets, require, set_aside, trouble
from wornsheaf.ends import cap
from wornsheaf.errors import Impossible, InvalidDemands
from wornsheaf.keeping import room
from wornsheaf.stages import best_choice, shares_of_numbers, spread


def check_wish(wish):
    """Raise InvalidDemands for the first record whose limits leave nothing."""
    for record in sorted(wish):
        least, most = wish[record]
        if least < 0 or most < least:
            raise InvalidDemands(record)


def lower_limits(wish):
    """Return the lower limits of a wish as demands."""
    return {record: wish[record][0] for record in wish}


def worths(sheaf, end, wish, *, breadth=1):
    """Return a dict that gives each sheet no fainter than the end its worth."""
    check_wish(wish)
    found = {}
    for record in sheaf.records():
        _, most = wish.get(record, (0, len(sheaf)))
        left = min(most, len(sheaf))
        for index in falling_sheets(sheaf, record):
            if sheaf.sharpness_of(index) >= end:
                ceiling = cap(sheaf.sharpness_of(index), end, breadth=breadth)
                found[index] = min(ceiling, left)
                left -= found[index]
    return found


def wish_trouble(sheaf, end, wish, *, breadth=1):
    """Return the first reason against the wish at the end, or None."""
    check_wish(wish)
    reason = trouble(sheaf, end, lower_limits(wish), breadth=breadth)
    if reason is not None:
        return reason
    amount = greatest_within(sheaf, end, wish, breadth=breadth)
    if amount >= len(sheaf):
        return None
    return ("short", amount, _best_cuts(sheaf, end, wish, breadth))


def greatest_within(sheaf, end, wish, *, breadth=1):
    """Return the greatest worth of a choice."""
    worth = worths(sheaf, end, wish, breadth=breadth)
    require(sheaf, end, lower_limits(wish), breadth=breadth)
    aside = _aside(sheaf, end, wish, breadth)
    return sum([worth[index] for index in best_choice(sheaf, end, aside, worth)])


def grant(sheaf, end, wish, *, breadth=1):
    """Return shares that keep all limits of the wish."""
    reason = wish_trouble(sheaf, end, wish, breadth=breadth)
    if reason is not None:
        raise Impossible(reason)
    worth = worths(sheaf, end, wish, breadth=breadth)
    choice = best_choice(sheaf, end, _aside(sheaf, end, wish, breadth), worth)
    return shares_of_numbers(sheaf, spread(sheaf, choice, lower_limits(wish), worth))


def look_at_short(sheaf, end, wish, reason, *, breadth=1):
    """Return whether the reason shows that no choice has the worth it takes."""
    check_wish(wish)
    if not can_meet(sheaf, end, lower_limits(wish), breadth=breadth):
        return False
    _, amount, cuts = reason
    worth = worths(sheaf, end, wish, breadth=breadth)
    aside = _aside(sheaf, end, wish, breadth)
    if len(cuts) != _most_worth(worth, aside):
        return False
    if not all([cut is None or end <= cut < sheaf.top for cut in cuts]):
        return False
    return amount == _total(sheaf, end, worth, aside, cuts) < len(sheaf)


def _aside(sheaf, end, wish, breadth):
    """Return the sheets that the lower limits of the wish set aside."""
    return set_aside(sheaf, end, lower_limits(wish), breadth=breadth)


def _most_worth(worth, aside):
    """Return the greatest worth of the sheets that are not set aside, or 0."""
    return max([0] + [worth[index] for index in worth if index not in aside])


def _worthy(worth, aside, number):
    """Return the sheets set aside and those with a worth of at least the number."""
    return [index for index in worth if index in aside or worth[index] >= number]


def _bound(sheaf, end, sheets, cut):
    """Return the bound that a cut gives for the sheets of a choice among these."""
    if cut is None:
        return len(sheets)
    sharper = [index for index in sheets if sheaf.sharpness_of(index) > cut]
    return room(sheaf, end, cut) + len(sharper)


def _best_cuts(sheaf, end, wish, breadth):
    """Return the cuts with the least total."""
    worth = worths(sheaf, end, wish, breadth=breadth)
    aside = _aside(sheaf, end, wish, breadth)
    cuts = []
    for number in range(1, _most_worth(worth, aside) + 1):
        cuts.append(_best_cut(sheaf, end, _worthy(worth, aside, number)))
    return tuple(cuts)


def _best_cut(sheaf, end, sheets):
    """Return the cut with the least bound."""
    best = None
    for height in range(end, sheaf.top):
        if _bound(sheaf, end, sheets, height) < _bound(sheaf, end, sheets, best):
            best = height
    return best


def _total(sheaf, end, worth, aside, cuts):
    """Return the total of the cuts."""
    total = sum([worth[index] for index in aside])
    for place, cut in enumerate(cuts):
        sheets = _worthy(worth, aside, place + 1)
        total += _bound(sheaf, end, sheets, cut) - len(aside)
    return total
