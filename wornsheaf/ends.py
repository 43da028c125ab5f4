"""Caps and reaches, and the ends of complete logs."""


def cap(sharpness, end, *, breadth=1):
    """Return the cap of a sheet of that sharpness."""
    if sharpness < end:
        return 0
    return _power(breadth + 1, sharpness - end)


def _power(base, exponent):
    """Return the power, by squaring."""
    power = 1
    square = base
    rest = exponent
    while rest > 0:
        if rest & 1 == 1:
            power = power * square
        square = square * square
        rest = rest // 2
    return power


def reach(sheaf, end, *, breadth=1):
    """Return the sum of the caps of all sheets."""
    return sum([cap(row[0], end, breadth=breadth) for row in sheaf])


def record_reach(sheaf, record, end, *, breadth=1):
    """Return the sum of the caps of the sheets that bear the record."""
    sharpnesses = [sheaf.sharpness_of(index) for index in sheaf.sheets_of(record)]
    return sum([cap(sharpness, end, breadth=breadth) for sharpness in sharpnesses])


def no_sharper(sheaf, height):
    """Return the number of sheets that are no sharper than the height."""
    return len([row for row in sheaf if row[0] <= height])


def low_end(sheaf):
    """Return the least end of a complete log."""
    # Of equally sharp sheets the first in rising order has just the fainter
    # ones before it; the others have more before them and tell less.
    rising = sorted([row[0] for row in sheaf])
    return max([sharpness - place for place, sharpness in enumerate(rising)])


def low_height(sheaf):
    """Return the greatest height below the top that shows the low end."""
    low = low_end(sheaf)
    height = sheaf.top - 1
    while height + 1 - no_sharper(sheaf, height) != low:
        height -= 1
    return height


def high_end(sheaf, *, breadth=1):
    """Return the greatest end of a complete log of that breadth."""
    # The reach is 0 above the top and grows with each step down, so the
    # first end that is met from the top is the greatest.
    end = sheaf.top
    while reach(sheaf, end, breadth=breadth) < len(sheaf):
        end -= 1
    return end


def possible_ends(sheaf, *, breadth=1):
    """Return the ascending list of the ends of complete logs."""
    return list(range(low_end(sheaf), high_end(sheaf, breadth=breadth) + 1))
