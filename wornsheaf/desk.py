"""The desk: sheaves under names, their journals and goals, and the page of all."""
from wornsheaf.claims import claim_demands
from wornsheaf.demands import require, without_zeros
from wornsheaf.ends import high_end
from wornsheaf.errors import (
    Impossible, InvalidDeed, InvalidName, InvalidPage, InvalidText, NothingToRedo, NothingToUndo,
    UnknownName, UsedName,
)
from wornsheaf.holding import bound, new_holding, with_aim, with_deed, with_redone, with_undone
from wornsheaf.notation import (
    format_demands, format_log, format_sheaf, is_signed_number, parse_demands, parse_log,
    parse_sheaf,
)
from wornsheaf.sheaf import Sheaf, valid_record
from wornsheaf.stages import plan


class Desk:
    """Sheaves under names, for one breadth."""

    def __init__(self, *, breadth=1):
        self.breadth = breadth
        self._holdings = {}

    def _holding(self, name):
        """Return what is kept under the name."""
        if name not in self._holdings:
            raise UnknownName(name)
        return self._holdings[name]

    def lay(self, name, rows):
        """Lay a sheaf under a new name."""
        if not valid_record(name):
            raise InvalidName(name)
        if name in self._holdings:
            raise UsedName(name)
        self._holdings[name] = new_holding(Sheaf(rows), None)

    def drop(self, name):
        """Take a sheaf from the desk, with all that belongs to it."""
        self._holding(name)
        del self._holdings[name]

    def names(self):
        """Return the ascending list of the names."""
        return sorted(self._holdings)

    def sheaf(self, name):
        """Return the current sheaf."""
        return self._holding(name).states[-1]

    def start(self, name):
        """Return the sheaf as it was laid."""
        return self._holding(name).states[0]

    def journal(self, name):
        """Return the log of the deeds that were done and not undone."""
        return list(self._holding(name).deeds)

    def undone(self, name):
        """Return the undone deeds, the one that would be redone next first."""
        return list(self._holding(name).later)

    def goal(self, name):
        """Return the tuple `(end, demands)` of the goal, or None."""
        aim = self._holding(name).aim
        if aim is None:
            return None
        return aim[0], dict(aim[1])

    def set_goal(self, name, end, demands):
        """Set a goal that the current sheaf can meet."""
        require(self.sheaf(name), end, demands, breadth=self.breadth)
        self._holdings[name] = with_aim(self._holding(name), (end, without_zeros(demands)))

    def release(self, name):
        """Remove the goal, if there is one."""
        self._holdings[name] = with_aim(self._holding(name), None)

    def do(self, name, deed):
        """Do one deed."""
        self.run(name, [deed])

    def run(self, name, log):
        """Do all deeds of a log, or none."""
        self._holding(name)
        self.run_all([(name, deed) for deed in log])

    def run_all(self, steps):
        """Do the deeds of all steps `(name, deed)`, or none."""
        trial = dict(self._holdings)
        for position, (name, deed) in enumerate(steps):
            if name not in trial:
                raise UnknownName(name)
            trial[name] = with_deed(trial[name], deed, position, self.breadth)
        self._holdings = trial

    def undo(self, name):
        """Undo the last deed, and return it."""
        holding = self._holding(name)
        if not holding.deeds:
            raise NothingToUndo(name)
        self._holdings[name] = with_undone(holding)
        return holding.deeds[-1]

    def redo(self, name):
        """Redo the deed that was undone last, and return it."""
        holding = self._holding(name)
        if not holding.later:
            raise NothingToRedo(name)
        self._holdings[name] = with_redone(holding, self.breadth)
        return holding.later[0]

    def finish(self, name):
        """Do deeds until the sheaf is level, and return the log of these."""
        sheaf = self.sheaf(name)
        aim = self.goal(name)
        if aim is None:
            aim = (high_end(sheaf, breadth=self.breadth), {})
        end, demands = aim
        log = plan(sheaf, end, demands, breadth=self.breadth)
        self.run(name, log)
        return log

    def bind(self, first, second, name):
        """Lay the bound sheaf of two sheaves, which are taken from the desk."""
        one = self._holding(first)
        other = self._holding(second)
        if first == second:
            raise UsedName(first)
        if not valid_record(name):
            raise InvalidName(name)
        if name in self._holdings and name not in (first, second):
            raise UsedName(name)
        del self._holdings[first]
        del self._holdings[second]
        self._holdings[name] = bound(one, other)

    def answer(self, name, end, demands):
        """Return the claim whether the current sheaf can meet the demands."""
        return claim_demands(self.sheaf(name), end, demands, breadth=self.breadth)

    def page(self):
        """Return the page of the desk."""
        return "\n".join([self._line(name) for name in self.names()])

    def _line(self, name):
        """Return the line of the page for one sheaf."""
        fields = [
            name, format_sheaf(self.start(name)), format_log(self.journal(name)),
            format_log(self.undone(name)), _format_goal(self.goal(name)),
        ]
        return ";".join(fields)


def _format_goal(goal):
    """Return the text of a goal, or of none."""
    if goal is None:
        return ""
    end, demands = goal
    if not demands:
        return str(end)
    return f"{end} {format_demands(demands)}"


def _parse_goal(text):
    """Return the end and the demands of the text of a goal."""
    number, space, rest = text.partition(" ")
    if not is_signed_number(number):
        raise InvalidText(0)
    # A space with nothing behind it would be lost on the way back.
    if space != "" and rest == "":
        raise InvalidText(1)
    return int(number), parse_demands(rest)


def read_page(text, *, breadth=1):
    """Return the desk of a page."""
    desk = Desk(breadth=breadth)
    # Splitting would find an empty line in the empty text, which has none.
    if text == "":
        return desk
    # Every valid name is greater than the empty string.
    last = ""
    for position, line in enumerate(text.split("\n")):
        fields = line.split(";")
        if len(fields) != 5 or fields[0] <= last:
            raise InvalidPage(position)
        try:
            _take_line(desk, fields)
        except (InvalidName, InvalidText, InvalidDeed, Impossible):
            raise InvalidPage(position)
        last = fields[0]
    return desk


def _take_line(desk, fields):
    """Lay and bring to its state the sheaf that the fields of a line tell."""
    name, start, journal, undone, goal = fields
    desk.lay(name, parse_sheaf(start).rows())
    later = parse_log(undone)
    # The undone deeds have to be allowed too, but need not meet the goal.
    desk.run(name, parse_log(journal) + later)
    for _ in later:
        desk.undo(name)
    if goal != "":
        end, demands = _parse_goal(goal)
        desk.set_goal(name, end, demands)
