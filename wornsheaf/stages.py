"""Logs and full shares that meet demands, made stage by stage from the top."""
from wornsheaf.demands import require, set_aside
from wornsheaf.ends import cap
from wornsheaf.keeping import find_choice


def plan(sheaf, end, demands, *, breadth=1):
    """Return a log that meets the demands at the end."""
    numbers = _numbers_for_demands(sheaf, end, demands, breadth)
    return _log_to_numbers(sheaf, end, numbers, breadth)


def full_shares(sheaf, end, demands, *, breadth=1):
    """Return full shares for the demands."""
    return shares_of_numbers(sheaf, _numbers_for_demands(sheaf, end, demands, breadth))


def _numbers_for_demands(sheaf, end, demands, breadth):
    """Return for each sheet how many sheets are to come from it, if that can be."""
    require(sheaf, end, demands, breadth=breadth)
    caps = {
        index: cap(row[0], end, breadth=breadth)
        for index, row in enumerate(sheaf) if row[0] >= end
    }
    aside = set_aside(sheaf, end, demands, breadth=breadth)
    return spread(sheaf, best_choice(sheaf, end, aside, caps), demands, caps)


def best_choice(sheaf, end, aside, worth):
    """Return a choice of the greatest worth, with the sheets set aside in front."""
    # A choice can be turned into any other by swapping single sheets, so
    # taking the dearest sheets first leads to the greatest worth.
    others = sorted([(-worth[index], index) for index in worth if index not in aside])
    return find_choice(sheaf, end, aside + [index for _, index in others])


def spread(sheaf, choice, demands, worth):
    """Return for each sheet how many sheets are to come from it.

    Those of the choice have at most their worth and all together the number
    of sheets; the records have at least their demands.
    """
    numbers = [0] * len(sheaf)
    owed = dict(demands)
    for index in choice:
        record = sheaf.record_of(index)
        numbers[index] = min(worth[index], owed.get(record, 0))
        owed[record] = owed.get(record, 0) - numbers[index]
    left = len(sheaf) - sum(numbers)
    for index in choice:
        more = min(worth[index] - numbers[index], left)
        numbers[index] += more
        left -= more
    return numbers


def shares_of_numbers(sheaf, numbers):
    """Return a dict that gives each record the sum of the numbers of its sheets."""
    shares = {}
    for row, number in zip(sheaf, numbers):
        if number > 0:
            shares[row[1]] = shares.get(row[1], 0) + number
    return shares


def _log_to_numbers(sheaf, end, numbers, breadth):
    """Return a log after which so many sheets have each sheet as their origin."""
    sharpnesses = [row[0] for row in sheaf]
    origins = list(range(len(sheaf)))
    log = []
    for height in range(sheaf.top, end, -1):
        sources = [index for index, each in enumerate(sharpnesses) if each == height]
        # No origin may have fewer sheets below the stage than it needs there
        # to be able to have its number at the end.
        most = cap(height - 1, end, breadth=breadth)
        needs = [(number + most - 1) // most for number in numbers]
        sizes = _group_sizes([origins[index] for index in sources], needs, breadth)
        unused = _unused_sheets(sharpnesses, numbers, height)
        for source, targets in _stage_deeds(sources, sizes, unused):
            log.append((source, targets))
            for index in (source, *targets):
                sharpnesses[index] = height - 1
                origins[index] = origins[source]
    return log


def _unused_sheets(sharpnesses, numbers, height):
    """Return the sheets below the height that may be written over."""
    # The sharpest ones go first: the faintest ones can serve the longest.
    unused = sorted([
        (-each, index) for index, each in enumerate(sharpnesses)
        if each < height and numbers[index] == 0
    ])
    return [index for _, index in unused]


def _group_sizes(origins, needs, breadth):
    """Return for each source how many sheets are to bear what it writes in a stage.

    Each origin gets what it needs. All together are at least one more than
    the sources, since the first deed needs a target below the stage.
    """
    left = list(needs)
    sizes = []
    for origin in origins:
        size = min(left[origin], breadth + 1)
        left[origin] -= size
        sizes.append(size)
    lacking = len(sizes) + 1 - sum(sizes)
    for place in range(len(sizes)):
        more = max(0, min(lacking, breadth + 1 - sizes[place]))
        sizes[place] += more
        lacking -= more
    return sizes


def _stage_deeds(sources, sizes, unused):
    """Return one deed for each source, so that the groups have these sizes."""
    # Small groups go first. A source without targets of its own writes over
    # one that a later source takes; without a group it is itself taken later.
    free = unused[:sum(sizes) - len(sizes)]
    deeds = []
    for size, source in sorted(list(zip(sizes, sources))):
        deeds.append((source, tuple(sorted(free[:max(1, size - 1)]))))
        free = free[max(0, size - 1):]
        if size == 0:
            free.append(source)
    return deeds
