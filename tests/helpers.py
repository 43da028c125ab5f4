"""Sheaves for the tests, and slow answers that follow the document's words."""
from itertools import combinations, product
from random import Random

from wornsheaf.sheaf import Sheaf

BREADTHS = range(1, 7)


def letters(count):
    """Return that many different records."""
    signs = "abcdefghijklmnopqrstuvwxyz"
    return [signs[k % 26] + ("" if k < 26 else str(k // 26)) for k in range(count)]


def sheaf_of(*sharpnesses):
    """Return a sheaf with these sharpnesses and different records."""
    return Sheaf(list(zip(sharpnesses, letters(len(sharpnesses)))))


def sharpnesses_of(sheaf):
    return [sharpness for sharpness, _ in sheaf.rows()]


def small_sheaves(most_sheets, most_sharpness):
    """Yield sheaves of all rising lists of sharpnesses from 0."""
    for count in range(1, most_sheets + 1):
        for told in product(range(most_sharpness + 1), repeat=count):
            if list(told) == sorted(told):
                yield sheaf_of(*told)


def some_sheaves(seed, many, most_sheets=40, span=12):
    """Yield sheaves with repeated records, always the same for a seed."""
    chance = Random(seed)
    for _ in range(many):
        count = chance.randint(1, most_sheets)
        low = chance.randint(-1000, 1000 - span)
        yield Sheaf(
            [(chance.randint(low, low + span), chance.choice("abcde")) for _ in range(count)]
        )


def all_deeds(sheaf, breadth):
    """Return all allowed deeds, by trying every set of sheets as targets."""
    deeds = []
    indexes = range(len(sheaf))
    for source in indexes:
        fainter = [k for k in indexes if sheaf.sharpness_of(k) < sheaf.sharpness_of(source)]
        for many in range(1, breadth + 1):
            deeds += [(source, targets) for targets in combinations(fainter, many)]
    return deeds


def after(rows, deed):
    """Return the rows after the deed, by the words of point 11."""
    source, targets = deed
    sharpness, record = rows[source]
    changed = {source, *targets}
    return [
        (sharpness - 1, record) if index in changed else row for index, row in enumerate(rows)
    ]


def some_log(sheaf, breadth, chance, most=200):
    """Return an allowed log of some deeds, and the rows that it leaves."""
    log = []
    rows = sheaf.rows()
    for _ in range(most):
        pairs = [
            (source, target)
            for source in range(len(rows))
            for target in range(len(rows))
            if rows[target][0] < rows[source][0]
        ]
        if not pairs:
            break
        source = chance.choice(pairs)[0]
        fainter = [target for first, target in pairs if first == source]
        many = chance.randint(1, min(breadth, len(fainter)))
        deed = (source, tuple(sorted(chance.sample(fainter, many))))
        rows = after(rows, deed)
        log.append(deed)
    return log, rows


def ends_by_search(sharpnesses, breadth):
    """Return the ends of all complete logs, by trying every deed."""
    known = {}

    def ends(state):
        if state not in known:
            found = {state[0]} if state[0] == state[-1] else set()
            for source in range(len(state)):
                fainter = [k for k in range(len(state)) if state[k] < state[source]]
                for many in range(1, min(breadth, len(fainter)) + 1):
                    for targets in combinations(fainter, many):
                        worn = list(state)
                        for index in (source, *targets):
                            worn[index] = state[source] - 1
                        found |= ends(tuple(sorted(worn)))
            known[state] = found
        return known[state]

    return sorted(ends(tuple(sorted(sharpnesses))))
