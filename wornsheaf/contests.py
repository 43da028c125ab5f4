"""Contests: two sides make each deed together, one the source, one the target."""
from wornsheaf.deeds import apply_deed
from wornsheaf.ends import low_end
from wornsheaf.errors import WrongMove
from wornsheaf.keeping import dearest_kept, keepsakes, kept_ends


class Contest:
    """A sheaf, the deeds that were done with it, and a half that is held."""

    def __init__(self, sheaf, *, first="source"):
        self._sheaf = sheaf
        self._first = first
        self._held = None
        self._deeds = []
        self._waiting = _half_to_begin(sheaf, first)

    @property
    def waiting(self):
        """The half that is to be named next, or None if the sheaf is level."""
        return self._waiting

    @property
    def held(self):
        """The index that was named as the first half in this turn, or None."""
        return self._held

    def current(self):
        """Return the sheaf as it is now."""
        return self._sheaf

    def done(self):
        """Return the log of the deeds that were done."""
        return list(self._deeds)

    def choices(self):
        """Return the ascending list of the indexes that may be named next."""
        return _may_be_named(self._sheaf, self._waiting, self._held)

    def choose(self, index):
        """Name the next half; the second half of a turn does the deed."""
        if index not in self.choices():
            raise WrongMove(index)
        if self._held is None:
            self._held = index
            self._waiting = _other_half(self._first)
            return
        deed = (self._held, (index,))
        if self._first == "target":
            deed = (index, (self._held,))
        self._sheaf = apply_deed(self._sheaf, deed)
        self._deeds.append(deed)
        self._held = None
        self._waiting = _half_to_begin(self._sheaf, self._first)


def _half_to_begin(sheaf, first):
    """Return the half that is named first, or None if the sheaf is level."""
    if sheaf.is_level():
        return None
    return first


def _other_half(half):
    """Return the half that is not this one."""
    if half == "source":
        return "target"
    return "source"


def _may_be_named(sheaf, half, named):
    """Return the indexes that may be named for a half, beside the named one.

    Without a named one a source need only be sharper than some sheet, and a
    target fainter than some sheet. In a level sheaf nothing may be named.
    """
    if half == "source":
        low = sheaf.bottom
        if named is not None:
            low = sheaf.sharpness_of(named)
        return [index for index, row in enumerate(sheaf) if row[0] > low]
    high = sheaf.top
    if named is not None:
        high = sheaf.sharpness_of(named)
    return [index for index, row in enumerate(sheaf) if row[0] < high]


def _faintest(sheaf, indexes):
    """Return the faintest of these sheets."""
    return min([(sheaf.sharpness_of(index), index) for index in indexes])[1]


def _sharpest(sheaf, indexes):
    """Return the sharpest of these sheets."""
    return max([(sheaf.sharpness_of(index), index) for index in indexes])[1]


class LowSide:
    """A side that leads a contest to the low end, by whichever half."""

    def __init__(self, half):
        self._half = half

    def __call__(self, sheaf, named):
        # As close to the other half as can be, named or not: then no sheet
        # lies between the two, the deed is near, and the low end stays.
        choices = _may_be_named(sheaf, self._half, named)
        if self._half == "source":
            return _faintest(sheaf, choices)
        return _sharpest(sheaf, choices)


class Warden:
    """A side that names targets and keeps records to the low end."""

    def __init__(self, kept):
        self._kept = list(kept)

    def __call__(self, sheaf, named):
        # Below the source no spare sheet is sharper than this one, so each
        # height that loses it has as many spare sheets as the height just
        # below the source, and can spare one. A list that can be kept leaves
        # such a sheet.
        choices = _may_be_named(sheaf, "target", named)
        borne = sheaf.shares()
        aside = keepsakes(sheaf, [record for record in self._kept if record in borne])
        needed = list(aside.values())
        spare = [index for index in choices if index not in needed]
        return _sharpest(sheaf, spare or choices)


class Picker:
    """A side that names one half by a list of picks."""

    def __init__(self, half, picks):
        self._half = half
        self._picks = list(picks)
        self._calls = 0

    def __call__(self, sheaf, named):
        choices = _may_be_named(sheaf, self._half, named)
        pick = 0
        if self._calls < len(self._picks):
            pick = self._picks[self._calls]
        self._calls += 1
        return choices[pick % len(choices)]


def play(contest, source_side, target_side):
    """Let two sides go on with a contest to its end, and return all its deeds."""
    while contest.waiting is not None:
        if contest.waiting == "source":
            index = source_side(contest.current(), contest.held)
        else:
            index = target_side(contest.current(), contest.held)
        contest.choose(index)
    return contest.done()


def can_save(sheaf, kept):
    """Return whether a warden can keep the list against every other side."""
    return low_end(sheaf) in kept_ends(sheaf, kept)


def dearest_saved(sheaf, prices):
    """Return the dearest records that a warden can keep."""
    return dearest_kept(sheaf, low_end(sheaf), prices)
