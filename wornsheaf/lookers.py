"""Checks of logs and reasons that do not trust whoever made them."""
from wornsheaf.deeds import replay
from wornsheaf.demands import check_demands, set_aside, spare_sharpnesses
from wornsheaf.ends import reach, record_reach
from wornsheaf.errors import InvalidDeed


def look_at_plan(sheaf, end, demands, log, *, breadth=1):
    """Return whether the log meets the demands at the end."""
    check_demands(demands)
    try:
        left = replay(sheaf, log, breadth=breadth)
    except InvalidDeed:
        return False
    if not left.is_level() or left.top != end:
        return False
    shares = left.shares()
    return all([shares.get(record, 0) >= demands[record] for record in demands])


def look_at_reason(sheaf, end, demands, reason, *, breadth=1):
    """Return whether the reason holds, first or not."""
    check_demands(demands)
    form = reason[0]
    amount = reason[-1]
    if form == "height":
        aside = set_aside(sheaf, end, demands, breadth=breadth)
        return _height_holds(sheaf, end, spare_sharpnesses(sheaf, aside), reason[1], amount)
    if form == "record":
        demand = demands.get(reason[1], 0)
        return amount == record_reach(sheaf, reason[1], end, breadth=breadth) < demand
    if form == "reach":
        return amount == reach(sheaf, end, breadth=breadth) < len(sheaf)
    return amount == sum([demands[record] for record in demands]) > len(sheaf)


def _height_holds(sheaf, end, spare, height, amount):
    """Return whether exactly so many spare sheets are too few up to the height."""
    if not end <= height < sheaf.top:
        return False
    found = len([sharpness for sharpness in spare if sharpness <= height])
    return amount == found < height + 1 - end
