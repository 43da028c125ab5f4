"""Guides: which deeds leave demands within reach, for breadth 1."""
from wornsheaf.deeds import apply_deed, each_state, single_deeds
from wornsheaf.demands import can_meet, check_demands, require, without_zeros


def safe_deeds(sheaf, end, demands):
    """Return the ascending list of the safe deeds."""
    check_demands(demands)
    wanted = without_zeros(demands)
    return [
        deed for deed in single_deeds(sheaf) if can_meet(apply_deed(sheaf, deed), end, wanted)
    ]


def spoiled_at(sheaf, log, end, demands):
    """Return the position of the deed that spoils the demands, -1, or None."""
    check_demands(demands)
    wanted = without_zeros(demands)
    # All states come first: a wrong deed counts for more than a spoiled one.
    states = list(each_state(sheaf, log))
    for place, state in enumerate(states):
        if not can_meet(state, end, wanted):
            return place - 1
    return None


def guided_log(sheaf, end, demands, picks):
    """Return the log of safe deeds that the picks choose."""
    require(sheaf, end, demands)
    state = sheaf
    log = []
    while not state.is_level():
        deeds = safe_deeds(state, end, demands)
        pick = 0
        if len(log) < len(picks):
            pick = picks[len(log)]
        deed = deeds[pick % len(deeds)]
        state = apply_deed(state, deed)
        log.append(deed)
    return log
