"""Sheaves: numbers of sheets, each with a sharpness and a record."""
from wornsheaf.errors import InvalidSheaf

_LONGEST_RECORD = 8
_RECORD_SIGNS = "abcdefghijklmnopqrstuvwxyz0123456789"


def valid_record(text):
    """Return whether the string is a valid record."""
    # Stripping stops at the first other sign from either end, so it leaves
    # nothing exactly if there is no other sign anywhere.
    return 1 <= len(text) <= _LONGEST_RECORD and text.strip(_RECORD_SIGNS) == ""


class Sheaf:
    """A sheaf that is made of rows `(sharpness, record)` and never changes."""

    def __init__(self, rows):
        self._rows = list(rows)
        if not self._rows:
            raise InvalidSheaf(0)
        for index, row in enumerate(self._rows):
            if not valid_record(row[1]):
                raise InvalidSheaf(index)
        self._top = max([row[0] for row in self._rows])
        self._bottom = min([row[0] for row in self._rows])

    def __len__(self):
        return len(self._rows)

    def __iter__(self):
        return iter(self._rows)

    def __eq__(self, other):
        return isinstance(other, Sheaf) and self._rows == other._rows

    def __add__(self, other):
        if not isinstance(other, Sheaf):
            return NotImplemented
        return Sheaf(self._rows + other._rows)

    @property
    def top(self):
        """The greatest sharpness."""
        return self._top

    @property
    def bottom(self):
        """The least sharpness."""
        return self._bottom

    def rows(self):
        """Return the list of rows."""
        return list(self._rows)

    def sharpness_of(self, index):
        """Return the sharpness of a sheet."""
        return self._rows[index][0]

    def record_of(self, index):
        """Return the record that a sheet bears."""
        return self._rows[index][1]

    def is_level(self):
        """Return whether all sheets are equally sharp."""
        return self._top == self._bottom

    def records(self):
        """Return the records in ascending order, without duplicates."""
        return sorted(self.shares())

    def shares(self):
        """Return a dict that gives each record the number of its sheets."""
        found = {}
        for row in self._rows:
            found[row[1]] = found.get(row[1], 0) + 1
        return found

    def sheets_of(self, record):
        """Return the ascending indexes of the sheets that bear the record."""
        return [index for index, row in enumerate(self._rows) if row[1] == record]
