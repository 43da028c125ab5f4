"""Outcomes: how many sheets each record can bear at the end, counted and in order."""
from wornsheaf.ends import cap, no_sharper, possible_ends
from wornsheaf.errors import NoOutcome, RepeatedRecord, UnknownRecord


def outcome_order(sheaf):
    """Return the indexes in the order of rising sharpness."""
    shares = sheaf.shares()
    for record in sorted(shares):
        if shares[record] > 1:
            raise RepeatedRecord(record)
    return [index for _, index in sorted([(row[0], index) for index, row in enumerate(sheaf)])]


def is_outcome(sheaf, end, numbers, *, breadth=1):
    """Return whether the numbers, in the outcome order, are an outcome."""
    caps = _caps(sheaf, end, breadth)
    if end not in possible_ends(sheaf, breadth=breadth):
        return False
    if len(numbers) != len(sheaf) or sum(numbers) != len(sheaf):
        return False
    if not all([0 <= number <= most for number, most in zip(numbers, caps)]):
        return False
    for height in range(end, sheaf.top):
        if numbers[:no_sharper(sheaf, height)].count(0) < height + 1 - end:
            return False
    return True


def count_outcomes(sheaf, end, *, breadth=1):
    """Return the number of outcomes."""
    return _all_ways(_ways_table(sheaf, end, _caps(sheaf, end, breadth)))


def outcome_at(sheaf, end, place, *, breadth=1):
    """Return the outcome with that place."""
    table = _ways_table(sheaf, end, _caps(sheaf, end, breadth))
    if not 0 <= place < _all_ways(table):
        raise NoOutcome()
    return _outcome_of_place(table, place)


def place_of(sheaf, end, numbers, *, breadth=1):
    """Return the place of an outcome."""
    if not is_outcome(sheaf, end, numbers, breadth=breadth):
        raise NoOutcome()
    return _place_in(_ways_table(sheaf, end, _caps(sheaf, end, breadth)), numbers)


def next_outcome(sheaf, end, numbers, *, breadth=1):
    """Return the outcome with the next place, or None if there is none."""
    if not is_outcome(sheaf, end, numbers, breadth=breadth):
        raise NoOutcome()
    table = _ways_table(sheaf, end, _caps(sheaf, end, breadth))
    place = _place_in(table, numbers) + 1
    if place == _all_ways(table):
        return None
    return _outcome_of_place(table, place)


def each_outcome(sheaf, end, *, breadth=1):
    """Yield all outcomes in ascending order."""
    table = _ways_table(sheaf, end, _caps(sheaf, end, breadth))
    for place in range(_all_ways(table)):
        yield _outcome_of_place(table, place)


def count_with(sheaf, end, record, *, breadth=1):
    """Return the number of outcomes in which some sheet bears the record."""
    caps = _caps(sheaf, end, breadth)
    order = outcome_order(sheaf)
    sheets = sheaf.sheets_of(record)
    if not sheets:
        raise UnknownRecord(record)
    without = list(caps)
    without[order.index(sheets[0])] = 0
    with_all = _all_ways(_ways_table(sheaf, end, caps))
    return with_all - _all_ways(_ways_table(sheaf, end, without))


def _caps(sheaf, end, breadth):
    """Return the caps of the sheets in the outcome order."""
    order = outcome_order(sheaf)
    return [cap(sheaf.sharpness_of(index), end, breadth=breadth) for index in order]


def _ways_table(sheaf, end, caps):
    """Return in how many ways the numbers from each place on can be filled.

    An item is found by the place in the outcome order, by how many numbers
    before it are 0, and by the sum that is left for it and those behind.
    """
    count = len(sheaf)
    rising = sorted([row[0] for row in sheaf])
    behind = [[1] + [0] * count for _ in range(count + 1)]
    table = [behind]
    for place in reversed(range(count)):
        # All heights from the end to below this sheet ask for zeros before it.
        lacking = rising[place] - end
        here = []
        for zeros in range(place + 1):
            if zeros < lacking:
                here.append([0] * (count + 1))
            else:
                here.append(_ways_row(behind, zeros, caps[place]))
        behind = here
        table.append(here)
    return table[::-1]


def _ways_row(behind, zeros, most):
    """Return the ways of one place, for each sum that is left."""
    row = []
    for left in range(len(behind[0])):
        other = sum(behind[zeros][max(0, left - most):left])
        row.append(behind[zeros + 1][left] + other)
    return row


def _all_ways(table):
    """Return the number of all outcomes of a table."""
    return table[0][0][-1]


def _ways_with(behind, zeros, left, number):
    """Return the ways behind a place that has that number."""
    if number == 0:
        return behind[zeros + 1][left]
    return behind[zeros][left - number]


def _outcome_of_place(table, place):
    """Return the outcome of a place that has one."""
    numbers = []
    left = len(table) - 1
    less = place
    for behind in table[1:]:
        zeros = numbers.count(0)
        number = 0
        while less >= _ways_with(behind, zeros, left, number):
            less -= _ways_with(behind, zeros, left, number)
            number += 1
        numbers.append(number)
        left -= number
    return numbers


def _place_in(table, numbers):
    """Return the place of an outcome."""
    less = 0
    for place, number in enumerate(numbers):
        zeros = numbers[:place].count(0)
        left = len(numbers) - sum(numbers[:place])
        for lower in range(number):
            less += _ways_with(table[place + 1], zeros, left, lower)
    return less
