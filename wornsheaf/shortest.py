"""The fewest deeds that lead to an end, counted by what must cross each height."""
from wornsheaf.deeds import each_state
from wornsheaf.demands import require
from wornsheaf.ends import no_sharper, possible_ends


def crossings(sheaf, end, *, breadth=1):
    """Return the crossing numbers for the heights from the end to the top."""
    require(sheaf, end, {}, breadth=breadth)
    found = [no_sharper(sheaf, end - 1)]
    for height in range(end + 1, sheaf.top + 1):
        left = found[-1] - breadth * _no_fainter(sheaf, height)
        # Rounding down the opposite number rounds up.
        rounded = -(-left // (breadth + 1))
        found.append(max([0, rounded] + _gaps_from(sheaf, height)))
    return found


def _no_fainter(sheaf, height):
    """Return the number of sheets that are no fainter than the height."""
    return len(sheaf) - no_sharper(sheaf, height - 1)


def _gaps_from(sheaf, height):
    """Return for each height up to below the top how many sheets lack on the way."""
    fainter = no_sharper(sheaf, height - 1)
    return [
        other + 1 - height - (no_sharper(sheaf, other) - fainter)
        for other in range(height, sheaf.top)
    ]


def shortest_length(sheaf, end, *, breadth=1):
    """Return the number of deeds of a shortest complete log with that end."""
    found = crossings(sheaf, end, breadth=breadth)
    heights = range(end + 1, sheaf.top + 1)
    return sum(found[1:]) + sum([_no_fainter(sheaf, height) for height in heights])


def shortest_log(sheaf, end, *, breadth=1):
    """Return a shortest complete log with that end."""
    found = crossings(sheaf, end, breadth=breadth)
    waiting = _sheets_to_lift(sheaf, end, found)
    sharpnesses = [row[0] for row in sheaf]
    log = []
    for height in range(sheaf.top, end, -1):
        many = max(0, found[height - 1 - end] - found[height - end])
        deeds = _stage_deeds(sharpnesses, height, waiting[:many], breadth)
        for source, targets in deeds:
            log.append((source, targets))
            for index in (source, *targets):
                sharpnesses[index] = height - 1
        waiting = waiting[many:]
    return log


def _sheets_to_lift(sheaf, end, found):
    """Return the sheets that are lifted past their place, the first ones first.

    Where fewer are to cross a height than the one above it, sheets that stand
    between the two have been lifted; at the end all fainter sheets are left.
    """
    lifted = []
    for height in range(sheaf.top, end, -1):
        fewer = max(0, found[height - end] - found[height - 1 - end])
        beside = [index for index, row in enumerate(sheaf) if row[0] == height - 1]
        lifted.extend(beside[:fewer])
    return lifted + [index for index, row in enumerate(sheaf) if row[0] < end]


def _stage_deeds(sharpnesses, height, lifted, breadth):
    """Return one deed for each sheet of the height, which lift just these sheets."""
    sources = [index for index, each in enumerate(sharpnesses) if each == height]
    # A source with nothing to lift writes over a sheet that is, or by then
    # has come, one step below. For the first source there is one, or a lift:
    # where no sheet stands one step below, more are to cross that height.
    below = [index for index, each in enumerate(sharpnesses) if each == height - 1]
    idle = (below + sources)[:1]
    deeds = []
    for place, source in enumerate(sources):
        targets = lifted[place * breadth:(place + 1) * breadth] or idle
        deeds.append((source, tuple(sorted(targets))))
    return deeds


def lifts_across(sheaf, log, height, *, breadth=1):
    """Return how many targets the log lifts across the height, with repeats."""
    states = list(each_state(sheaf, log, breadth=breadth))
    total = 0
    for state, (source, targets) in zip(states, log):
        if state.sharpness_of(source) - 1 >= height:
            fainter = [target for target in targets if state.sharpness_of(target) < height]
            total += len(fainter)
    return total


def quickest_end(sheaf, *, breadth=1):
    """Return the highest end with the least shortest length, and that length."""
    lengths = []
    for end in possible_ends(sheaf, breadth=breadth):
        # The least tuple has the highest of the ends with the least length.
        lengths.append((shortest_length(sheaf, end, breadth=breadth), -end))
    length, opposite = min(lengths)
    return -opposite, length
