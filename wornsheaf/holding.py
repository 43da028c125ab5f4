"""What a desk keeps for one sheaf, and how deeds, undoing and redoing change it."""
from wornsheaf.deeds import apply_deed, is_allowed
from wornsheaf.demands import trouble
from wornsheaf.errors import InvalidDeed, Spoiled


class Holding:
    """The states of a sheaf, its journal, its undone deeds and its goal.

    The states are the start and the sheaf after each deed of the journal. The
    goal is a tuple `(end, demands)` or None. A holding never changes: a desk
    that refuses a deed keeps the holdings that it had.
    """

    def __init__(self, states, deeds, later, aim):
        self.states = states
        self.deeds = deeds
        self.later = later
        self.aim = aim


def new_holding(sheaf, aim):
    """Return the holding of a sheaf that was just laid."""
    return Holding([sheaf], [], [], aim)


def with_aim(holding, aim):
    """Return the holding with another goal, or with none."""
    return Holding(holding.states, holding.deeds, holding.later, aim)


def with_deed(holding, deed, position, breadth):
    """Return the holding after one more deed, or refuse the deed."""
    state = holding.states[-1]
    if not is_allowed(state, deed, breadth=breadth):
        raise InvalidDeed(position)
    after = apply_deed(state, deed, breadth=breadth)
    if holding.aim is not None:
        end, demands = holding.aim
        reason = trouble(after, end, demands, breadth=breadth)
        if reason is not None:
            raise Spoiled(position, reason)
    return Holding(holding.states + [after], holding.deeds + [deed], [], holding.aim)


def with_undone(holding):
    """Return the holding after its last deed was undone."""
    later = [holding.deeds[-1]] + holding.later
    return Holding(holding.states[:-1], holding.deeds[:-1], later, holding.aim)


def with_redone(holding, breadth):
    """Return the holding after its next undone deed was redone, or refuse that."""
    after = with_deed(holding, holding.later[0], 0, breadth)
    return Holding(after.states, after.deeds, holding.later[1:], after.aim)


def bound(first, second):
    """Return the holding of the bound sheaf of two holdings."""
    sheaf = first.states[-1] + second.states[-1]
    if first.aim is None or second.aim is None:
        return new_holding(sheaf, None)
    end, demands = first.aim
    other_end, other_demands = second.aim
    if end != other_end:
        return new_holding(sheaf, None)
    total = dict(demands)
    for record in other_demands:
        total[record] = total.get(record, 0) + other_demands[record]
    return new_holding(sheaf, (end, total))
