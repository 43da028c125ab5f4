"""Claims about a sheaf, with papers that show them, made and looked at."""
from wornsheaf.demands import can_meet, trouble
from wornsheaf.errors import InvalidRound
from wornsheaf.lookers import look_at_plan, look_at_reason
from wornsheaf.rounds import fewest_rounds, play_rounds, round_plan
from wornsheaf.shortest import shortest_length, shortest_log
from wornsheaf.stages import plan
from wornsheaf.wishes import check_wish, grant, look_at_short, lower_limits, wish_trouble


class Claim:
    """What is said of an end, by its kind and its subject, and its paper."""

    def __init__(self, kind, end, subject, paper):
        self.kind = kind
        self.end = end
        self._subject = _copied(subject)
        self._paper = _copied(paper)

    def subject(self):
        """Return the subject that the claim was made with."""
        return _copied(self._subject)

    def paper(self):
        """Return the paper that the claim was made with."""
        return _copied(self._paper)


def _copied(thing):
    """Return a copy of lists and dicts, and of the lists within lists."""
    if isinstance(thing, list):
        return [_copied(item) for item in thing]
    if isinstance(thing, dict):
        return {key: _copied(thing[key]) for key in thing}
    return thing


def look(sheaf, claim, *, breadth=1):
    """Return whether the claim is true and its paper shows it."""
    subject = claim.subject()
    paper = claim.paper()
    if claim.kind == "meets":
        return look_at_plan(sheaf, claim.end, subject, paper, breadth=breadth)
    if claim.kind == "fails":
        return look_at_reason(sheaf, claim.end, subject, paper, breadth=breadth)
    if claim.kind == "grants":
        return _look_at_shares(sheaf, claim.end, subject, paper, breadth)
    if claim.kind == "denies":
        return _look_at_denial(sheaf, claim.end, subject, paper, breadth)
    if claim.kind == "shortest":
        return _look_at_shortest(sheaf, claim.end, subject, paper, breadth)
    if claim.kind == "rounds":
        return _look_at_rounds(sheaf, claim.end, subject, paper, breadth)
    return False


def _look_at_shares(sheaf, end, wish, shares, breadth):
    """Return whether the shares grant the wish."""
    check_wish(wish)
    if not all([shares[record] >= 1 for record in shares]):
        return False
    if sum([shares[record] for record in shares]) != len(sheaf):
        return False
    for record in wish:
        least, most = wish[record]
        if not least <= shares.get(record, 0) <= most:
            return False
    return can_meet(sheaf, end, shares, breadth=breadth)


def _look_at_denial(sheaf, end, wish, reason, breadth):
    """Return whether the reason shows that the wish cannot be granted."""
    check_wish(wish)
    if reason[0] == "short":
        return look_at_short(sheaf, end, wish, reason, breadth=breadth)
    return look_at_reason(sheaf, end, lower_limits(wish), reason, breadth=breadth)


def _look_at_shortest(sheaf, end, length, log, breadth):
    """Return whether the log has that end and the length, and none is shorter."""
    # Behind a log with that end the end is possible, and has a length.
    return (
        look_at_plan(sheaf, end, {}, log, breadth=breadth)
        and length == len(log) == shortest_length(sheaf, end, breadth=breadth)
    )


def _look_at_rounds(sheaf, end, number, rounds, breadth):
    """Return whether so many rounds reach the end, and no fewer do."""
    try:
        left = play_rounds(sheaf, rounds, breadth=breadth)
    except InvalidRound:
        return False
    # Behind rounds that reach the end it is no higher than the high end.
    return (
        left.bottom >= end
        and number == len(rounds) == fewest_rounds(sheaf, end, breadth=breadth)
    )


def claim_demands(sheaf, end, demands, *, breadth=1):
    """Return the claim that the demands can, or cannot, be met."""
    reason = trouble(sheaf, end, demands, breadth=breadth)
    if reason is not None:
        return Claim("fails", end, demands, reason)
    return Claim("meets", end, demands, plan(sheaf, end, demands, breadth=breadth))


def claim_wish(sheaf, end, wish, *, breadth=1):
    """Return the claim that the wish can, or cannot, be granted."""
    reason = wish_trouble(sheaf, end, wish, breadth=breadth)
    if reason is not None:
        return Claim("denies", end, wish, reason)
    return Claim("grants", end, wish, grant(sheaf, end, wish, breadth=breadth))


def claim_shortest(sheaf, end, *, breadth=1):
    """Return the claim of the shortest length for the end."""
    length = shortest_length(sheaf, end, breadth=breadth)
    return Claim("shortest", end, length, shortest_log(sheaf, end, breadth=breadth))


def claim_rounds(sheaf, end, *, breadth=1):
    """Return the claim of the fewest rounds for the end."""
    number = fewest_rounds(sheaf, end, breadth=breadth)
    return Claim("rounds", end, number, round_plan(sheaf, end, breadth=breadth))
