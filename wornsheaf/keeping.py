"""Keeping records: which of them can be carried to an end together."""
from wornsheaf.deeds import each_state
from wornsheaf.demands import can_meet, check_demands, falling_sheets, footing, require
from wornsheaf.ends import high_end, no_sharper
from wornsheaf.errors import UnknownRecord


def check_borne(sheaf, records):
    """Raise UnknownRecord for the first of the records that no sheet bears."""
    borne = sheaf.shares()
    for record in records:
        if record not in borne:
            raise UnknownRecord(record)


def keepsakes(sheaf, kept):
    """Return a dict that gives each record of the list its sharpest sheet."""
    check_borne(sheaf, kept)
    return {record: falling_sheets(sheaf, record)[0] for record in kept}


def kept_floor(sheaf, kept):
    """Return the floor of a kept list."""
    return footing(sheaf, list(keepsakes(sheaf, kept).values()))


def kept_ends(sheaf, kept, *, breadth=1):
    """Return the ascending list of the ends to which the list can be carried."""
    sheets = list(keepsakes(sheaf, kept).values())
    ceilings = [high_end(sheaf, breadth=breadth)]
    ceilings.extend([sheaf.sharpness_of(index) for index in sheets])
    return list(range(footing(sheaf, sheets), min(ceilings) + 1))


def kept_floors(sheaf, kept, log, *, breadth=1):
    """Return the floors along a log, as long as all records are borne."""
    floors = [kept_floor(sheaf, kept)]
    # All states come first: also a deed behind the last floor may be wrong.
    states = list(each_state(sheaf, log, breadth=breadth))
    for state in states[1:]:
        borne = state.shares()
        if not all([record in borne for record in kept]):
            break
        floors.append(kept_floor(state, kept))
    return floors


def most_kept(sheaf, end, *, breadth=1):
    """Return the greatest number of records that can be carried together."""
    require(sheaf, end, {}, breadth=breadth)
    # The sheets of one room are among those of the next, so every list to
    # which nothing can be added is as long as any other.
    found = keepsakes(sheaf, sheaf.records())
    return len(find_choice(sheaf, end, list(found.values())))


def dearest_kept(sheaf, end, prices, *, breadth=1):
    """Return the records that are chosen by falling price."""
    found = keepsakes(sheaf, sorted(prices))
    require(sheaf, end, {}, breadth=breadth)
    order = [record for _, record in sorted([(-prices[record], record) for record in prices])]
    chosen = find_choice(sheaf, end, [found[record] for record in order])
    return sorted([sheaf.record_of(index) for index in chosen])


def room(sheaf, end, height):
    """Return the room of a height."""
    return no_sharper(sheaf, height) - height - 1 + end


def find_choice(sheaf, end, order):
    """Return the sheets, taken in this order, that find room beside those before them."""
    rooms = [room(sheaf, end, height) for height in range(end, sheaf.top)]
    chosen = []
    for index in order:
        first = sheaf.sharpness_of(index) - end
        if first >= 0 and all([left > 0 for left in rooms[first:]]):
            rooms = rooms[:first] + [left - 1 for left in rooms[first:]]
            chosen.append(index)
    return chosen


def swap_choices(sheaf, end, kept, record, *, breadth=1):
    """Return whether the record fits beside the list, and what it could replace."""
    check_borne(sheaf, kept + [record])
    require(sheaf, end, _once_each(kept), breadth=breadth)
    if _can_carry(sheaf, end, kept + [record], breadth):
        return True, []
    choices = []
    for other in sorted(kept):
        rest = [each for each in kept if each != other]
        if _can_carry(sheaf, end, rest + [record], breadth):
            choices.append(other)
    return False, choices


def _can_carry(sheaf, end, records, breadth):
    """Return whether the records can be carried to the end together."""
    return can_meet(sheaf, end, _once_each(records), breadth=breadth)


def _once_each(records):
    """Return the demands of 1 for each of the records."""
    return {record: 1 for record in records}


def greatest_share(sheaf, end, demands, record, *, breadth=1):
    """Return the greatest demand of the record that can be met beside the others."""
    check_demands(demands)
    check_borne(sheaf, [record])
    require(sheaf, end, demands, breadth=breadth)
    tried = dict(demands)
    tried[record] = 0
    tried[record] = len(sheaf) - sum([tried[other] for other in tried])
    # The demand as it was given can be met, so the way down ends.
    while not can_meet(sheaf, end, tried, breadth=breadth):
        tried[record] -= 1
    return tried[record]
