"""Rounds of deeds that are done at once, and the fewest that reach an end."""
from wornsheaf.deeds import is_allowed, replay
from wornsheaf.ends import cap, reach
from wornsheaf.errors import Impossible, InvalidRound


def play_rounds(sheaf, rounds, *, breadth=1):
    """Return the sheaf after the rounds."""
    state = sheaf
    for position, deeds in enumerate(rounds):
        if not _is_round(state, deeds, breadth):
            raise InvalidRound(position)
        # Deeds that share no sheet do the same one after the other as at once.
        state = replay(state, deeds, breadth=breadth)
    return state


def _is_round(sheaf, deeds, breadth):
    """Return whether the deeds can be done at once."""
    touched = [index for source, targets in deeds for index in (source, *targets)]
    if len(set(touched)) != len(touched):
        return False
    return all([is_allowed(sheaf, deed, breadth=breadth) for deed in deeds])


def round_weight(sheaf, end, count, *, breadth=1):
    """Return the weight for so many rounds."""
    # Sheets fainter than the end have the cap 0 and add nothing.
    return sum([cap(min(row[0], end + count), end, breadth=breadth) for row in sheaf])


def fewest_rounds(sheaf, end, *, breadth=1):
    """Return the least number of rounds that leave no sheet fainter than the end."""
    # While another round adds to the weight it adds at least 1, and once it
    # adds nothing the weight is the reach.
    for count in range(len(sheaf) + 1):
        if round_weight(sheaf, end, count, breadth=breadth) >= len(sheaf):
            return count
    raise Impossible(("reach", reach(sheaf, end, breadth=breadth)))


def round_plan(sheaf, end, *, breadth=1):
    """Return the fewest rounds that leave no sheet fainter than the end."""
    state = sheaf
    rounds = []
    for _ in range(fewest_rounds(sheaf, end, breadth=breadth)):
        deeds = _fullest_round(state, end, breadth)
        state = replay(state, deeds, breadth=breadth)
        rounds.append(deeds)
    return rounds


def _fullest_round(sheaf, end, breadth):
    """Return a round that lifts as many sheets to the end as one round can."""
    # Each source fills its breadth, so no weight is lost as long as there are
    # sheets fainter than the end.
    fainter = [index for index, row in enumerate(sheaf) if row[0] < end]
    deeds = []
    for source, row in enumerate(sheaf):
        if row[0] > end and fainter:
            deeds.append((source, tuple(fainter[:breadth])))
            fainter = fainter[breadth:]
    return deeds
