"""Sheaves for the tests, and slow answers that follow the document's words."""
from itertools import combinations, product
from random import Random

from wornsheaf.sheaf import Sheaf

BREADTHS = range(1, 7)


def letters(count):
    """Return that many different records."""
    signs = "abcdefghijklmnopqrstuvwxyz"
    return [signs[k % 26] + ("" if k < 26 else str(k // 26)) for k in range(count)]


def sheaf_of(*sharpnesses):
    """Return a sheaf with these sharpnesses and different records."""
    return Sheaf(list(zip(sharpnesses, letters(len(sharpnesses)))))


def sharpnesses_of(sheaf):
    return [sharpness for sharpness, _ in sheaf.rows()]


def small_sheaves(most_sheets, most_sharpness):
    """Yield sheaves of all rising lists of sharpnesses from 0."""
    for count in range(1, most_sheets + 1):
        for told in product(range(most_sharpness + 1), repeat=count):
            if list(told) == sorted(told):
                yield sheaf_of(*told)


def some_sheaves(seed, many, most_sheets=40, span=12):
    """Yield sheaves with repeated records, always the same for a seed."""
    chance = Random(seed)
    for _ in range(many):
        count = chance.randint(1, most_sheets)
        low = chance.randint(-1000, 1000 - span)
        yield Sheaf(
            [(chance.randint(low, low + span), chance.choice("abcde")) for _ in range(count)]
        )


def all_deeds(sheaf, breadth):
    """Return all allowed deeds, by trying every set of sheets as targets."""
    deeds = []
    indexes = range(len(sheaf))
    for source in indexes:
        fainter = [k for k in indexes if sheaf.sharpness_of(k) < sheaf.sharpness_of(source)]
        for many in range(1, breadth + 1):
            deeds += [(source, targets) for targets in combinations(fainter, many)]
    return deeds


def after(rows, deed):
    """Return the rows after the deed, by the words of point 11."""
    source, targets = deed
    sharpness, record = rows[source]
    changed = {source, *targets}
    return [
        (sharpness - 1, record) if index in changed else row for index, row in enumerate(rows)
    ]


def some_log(sheaf, breadth, chance, most=200):
    """Return an allowed log of some deeds, and the rows that it leaves."""
    log = []
    rows = sheaf.rows()
    for _ in range(most):
        pairs = [
            (source, target)
            for source in range(len(rows))
            for target in range(len(rows))
            if rows[target][0] < rows[source][0]
        ]
        if not pairs:
            break
        source = chance.choice(pairs)[0]
        fainter = [target for first, target in pairs if first == source]
        many = chance.randint(1, min(breadth, len(fainter)))
        deed = (source, tuple(sorted(chance.sample(fainter, many))))
        rows = after(rows, deed)
        log.append(deed)
    return log, rows


def ends_by_search(sharpnesses, breadth):
    """Return the ends of all complete logs, by trying every deed."""
    known = {}

    def ends(state):
        if state not in known:
            found = {state[0]} if state[0] == state[-1] else set()
            for source in range(len(state)):
                fainter = [k for k in range(len(state)) if state[k] < state[source]]
                for many in range(1, min(breadth, len(fainter)) + 1):
                    for targets in combinations(fainter, many):
                        worn = list(state)
                        for index in (source, *targets):
                            worn[index] = state[source] - 1
                        found |= ends(tuple(sorted(worn)))
            known[state] = found
        return known[state]

    return sorted(ends(tuple(sorted(sharpnesses))))


def states_after(state, breadth):
    """Return all states that one deed leaves; a state is a sorted tuple of rows."""
    rows = [list(row) for row in state]
    found = set()
    for source, (sharpness, record) in enumerate(rows):
        fainter = [k for k, row in enumerate(rows) if row[0] < sharpness]
        for many in range(1, min(breadth, len(fainter)) + 1):
            for targets in combinations(fainter, many):
                found.add(tuple(sorted(after([tuple(row) for row in rows], (source, targets)))))
    return found


KNOWN_FINALS = {}


def finals(rows, breadth):
    """Return all `(end, shares)` of complete logs, by trying every deed.

    The shares are a sorted tuple of pairs `(record, number)`.
    """
    state = tuple(sorted(rows))
    known = KNOWN_FINALS.setdefault(breadth, {})
    if state not in known:
        found = set()
        if state[0][0] == state[-1][0]:
            records = [record for _, record in state]
            shares = tuple((record, records.count(record)) for record in sorted(set(records)))
            found.add((state[0][0], shares))
        for later in states_after(state, breadth):
            found |= finals(later, breadth)
        known[state] = found
    return known[state]


def relabelled(sheaf, records):
    """Return the sheaf with these records instead of its own."""
    return Sheaf(list(zip(sharpnesses_of(sheaf), records)))


def small_record_sheaves(most_sheets, most_sharpness, records="ab"):
    """Yield small sheaves with all ways to spread these records over them."""
    for sheaf in small_sheaves(most_sheets, most_sharpness):
        for told in product(records, repeat=len(sheaf)):
            yield relabelled(sheaf, told)


def all_demands(records, most):
    """Yield all demands from 0 to the most for these records."""
    for numbers in product(range(most + 1), repeat=len(records)):
        yield dict(zip(records, numbers))


def shares_at(sheaf, end, breadth):
    """Return the dicts of shares of all complete logs with that end, by search."""
    return [dict(shares) for found, shares in finals(sheaf.rows(), breadth) if found == end]


def meets(shares, demands):
    return all(shares.get(record, 0) >= demand for record, demand in demands.items())


def cap_by_words(sharpness, end, breadth):
    return (breadth + 1) ** (sharpness - end) if sharpness >= end else 0


def aside_by_words(sheaf, end, demands, breadth):
    """Return the sheets that point 42 sets aside."""
    aside = []
    for record, demand in demands.items():
        sheets = [k for k, row in enumerate(sheaf.rows()) if row[1] == record and row[0] >= end]
        sheets.sort(key=lambda k: (-sheaf.sharpness_of(k), k))
        total = 0
        while demand >= 1 and sheets and total < demand:
            total += cap_by_words(sheaf.sharpness_of(sheets[0]), end, breadth)
            aside.append(sheets.pop(0))
    return sorted(aside)


def reasons_by_words(sheaf, end, demands, breadth):
    """Return all reasons of point 44 that hold, in the order of point 45."""
    rows = sheaf.rows()
    reasons = []
    if sum(demands.values()) > len(rows):
        reasons.append(("total", sum(demands.values())))
    reach = sum(cap_by_words(sharpness, end, breadth) for sharpness, _ in rows)
    if reach < len(rows):
        reasons.append(("reach", reach))
    for record in sorted(demands):
        own = sum(cap_by_words(row[0], end, breadth) for row in rows if row[1] == record)
        if own < demands[record]:
            reasons.append(("record", record, own))
    aside = aside_by_words(sheaf, end, demands, breadth)
    for height in range(end, sheaf.top):
        spare = [k for k, row in enumerate(rows) if row[0] <= height and k not in aside]
        if len(spare) < height + 1 - end:
            reasons.append(("height", height, len(spare)))
    return reasons


def complete_log(sheaf, breadth, chance):
    """Return some complete log, and the rows that it leaves."""
    return some_log(sheaf, breadth, chance, most=10 ** 6)


def shares_of_rows(rows):
    records = [record for _, record in rows]
    return {record: records.count(record) for record in records}


def shortest_by_search(sharpnesses, breadth, known):
    """Return a dict that gives each end of a complete log the fewest deeds."""
    state = tuple(sorted(sharpnesses))
    if state not in known:
        found = {state[0]: 0} if state[0] == state[-1] else {}
        for later in states_after(tuple((sharpness, "") for sharpness in state), breadth):
            told = [sharpness for sharpness, _ in later]
            for end, length in shortest_by_search(told, breadth, known).items():
                found[end] = min(found.get(end, length + 1), length + 1)
        known[state] = found
    return known[state]


def longest_by_search(sharpnesses, known):
    """Return the most deeds with one target that a log can have."""
    state = tuple(sorted(sharpnesses))
    if state not in known:
        lengths = [0]
        for later in states_after(tuple((sharpness, "") for sharpness in state), 1):
            told = [sharpness for sharpness, _ in later]
            lengths.append(1 + longest_by_search(told, known))
        known[state] = max(lengths)
    return known[state]


def level_at(sheaf, end):
    """Return whether all sheets have the end as their sharpness."""
    return {sharpness for sharpness, _ in sheaf.rows()} == {end}


def many_picks(chance, many, most=1000):
    """Return that many picks."""
    return [chance.randint(0, most) for _ in range(many)]


def error_of(error, function, *things, **more):
    """Return the error that the function raises."""
    try:
        function(*things, **more)
    except error as caught:
        if type(caught) is error:
            return caught
        raise AssertionError(f"{type(caught)} instead of {error}") from caught
    raise AssertionError(f"{error} was not raised")
