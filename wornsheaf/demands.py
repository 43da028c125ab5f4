"""Demands: how many sheets each record is to have at the end, and what is against it."""
from wornsheaf.ends import cap, possible_ends
from wornsheaf.errors import Impossible, InvalidDemands


def check_demands(demands):
    """Raise InvalidDemands for the first record whose demand is negative."""
    for record in sorted(demands):
        if demands[record] < 0:
            raise InvalidDemands(record)


def without_zeros(demands):
    """Return the demands without the records whose demand is 0."""
    return {record: demands[record] for record in demands if demands[record] != 0}


def require(sheaf, end, demands, *, breadth=1):
    """Raise Impossible if the demands cannot be met at the end."""
    reason = trouble(sheaf, end, demands, breadth=breadth)
    if reason is not None:
        raise Impossible(reason)


def falling_sheets(sheaf, record):
    """Return the sheets of a record, the sharpest first, equal ones by index."""
    marks = sorted([(-sheaf.sharpness_of(index), index) for index in sheaf.sheets_of(record)])
    return [index for _, index in marks]


def set_aside(sheaf, end, demands, *, breadth=1):
    """Return the ascending list of the sheets that are set aside."""
    check_demands(demands)
    aside = []
    for record in demands:
        aside.extend(_taken(sheaf, end, record, demands[record], breadth))
    return sorted(aside)


def _taken(sheaf, end, record, demand, breadth):
    """Return the sheets of the record that are taken for its demand."""
    taken = []
    gathered = 0
    for index in falling_sheets(sheaf, record):
        found = _cap_up_to(sheaf.sharpness_of(index), end, demand, breadth)
        if gathered >= demand or found == 0:
            break
        taken.append(index)
        gathered += found
    return taken


def _cap_up_to(sharpness, end, most, breadth):
    """Return the cap, or some number above most if the cap is above most."""
    # So many steps already lead above most; the power of far more is not needed.
    return cap(min(sharpness, end + most), end, breadth=breadth)


def _reach_up_to(rows, end, most, breadth):
    """Return the sum of the caps, or some number above most if one is above most."""
    return sum([_cap_up_to(row[0], end, most, breadth) for row in rows])


def spare_sharpnesses(sheaf, aside):
    """Return the sharpnesses of the sheets that are not set aside."""
    return [row[0] for index, row in enumerate(sheaf) if index not in aside]


def footing(sheaf, aside):
    """Return the footing of the sheaf with these sheets set aside."""
    spare = spare_sharpnesses(sheaf, aside)
    marks = [sheaf.top] + spare
    return max([mark - len([each for each in spare if each < mark]) for mark in marks])


def trouble(sheaf, end, demands, *, breadth=1):
    """Return the first reason against the demands at the end, or None."""
    check_demands(demands)
    total = sum([demands[record] for record in demands])
    if total > len(sheaf):
        return ("total", total)
    reached = _reach_up_to(sheaf.rows(), end, len(sheaf), breadth)
    if reached < len(sheaf):
        return ("reach", reached)
    for record in sorted(demands):
        borne = [row for row in sheaf if row[1] == record]
        amount = _reach_up_to(borne, end, demands[record], breadth)
        if amount < demands[record]:
            return ("record", record, amount)
    return _height_trouble(sheaf, end, set_aside(sheaf, end, demands, breadth=breadth))


def _height_trouble(sheaf, end, aside):
    """Return the reason of the least height with too few spare sheets, or None."""
    spare = spare_sharpnesses(sheaf, aside)
    for height in range(end, sheaf.top):
        amount = len([each for each in spare if each <= height])
        if amount < height + 1 - end:
            return ("height", height, amount)
    return None


def can_meet(sheaf, end, demands, *, breadth=1):
    """Return whether the demands can be met at the end."""
    return trouble(sheaf, end, demands, breadth=breadth) is None


def met_ends(sheaf, demands, *, breadth=1):
    """Return the ascending list of all ends at which the demands can be met."""
    ends = possible_ends(sheaf, breadth=breadth)
    return [end for end in ends if can_meet(sheaf, end, demands, breadth=breadth)]
