"""The texts of sheaves, deeds, logs and demands, written and read."""
from wornsheaf.deeds import is_ascending
from wornsheaf.errors import InvalidText
from wornsheaf.sheaf import Sheaf, valid_record

_MOST_DIGITS = 9
_DIGITS = "0123456789"


def format_sheaf(sheaf):
    """Return the text of a sheaf."""
    return " ".join([f"{sharpness}:{record}" for sharpness, record in sheaf])


def format_deed(deed):
    """Return the text of a deed."""
    source, targets = deed
    written = ",".join([str(target) for target in targets])
    return f"{source}>{written}"


def format_log(log):
    """Return the text of a log."""
    return " ".join([format_deed(deed) for deed in log])


def format_demands(demands):
    """Return the text of demands, without the records whose demand is 0."""
    named = [record for record in sorted(demands) if demands[record] != 0]
    return " ".join([f"{record}={demands[record]}" for record in named])


def parse_sheaf(text):
    """Return the sheaf of a text."""
    rows = []
    for position, word in enumerate(text.split(" ")):
        sharpness, _, record = word.partition(":")
        if not is_signed_number(sharpness) or not valid_record(record):
            raise InvalidText(position)
        rows.append((int(sharpness), record))
    return Sheaf(rows)


def parse_deed(text):
    """Return the deed of a text."""
    deed = _read_deed(text)
    if deed is None:
        raise InvalidText(0)
    return deed


def parse_log(text):
    """Return the log of a text."""
    log = []
    for position, word in enumerate(_words(text)):
        deed = _read_deed(word)
        if deed is None:
            raise InvalidText(position)
        log.append(deed)
    return log


def parse_demands(text):
    """Return the demands of a text."""
    demands = {}
    # Every record is greater than the empty string.
    last = ""
    for position, word in enumerate(_words(text)):
        record, _, number = word.partition("=")
        if not valid_record(record) or record <= last:
            raise InvalidText(position)
        if not _is_number(number) or number == "0":
            raise InvalidText(position)
        demands[record] = int(number)
        last = record
    return demands


def _words(text):
    """Return the words of a text of which the empty string has no word."""
    if text == "":
        return []
    return text.split(" ")


def _read_deed(word):
    """Return the deed that a word tells, or None if the word is wrong."""
    source, _, written = word.partition(">")
    numbers = [source, *written.split(",")]
    if not all([_is_number(number) for number in numbers]):
        return None
    targets = tuple([int(number) for number in numbers[1:]])
    if not is_ascending(targets):
        return None
    return int(source), targets


def _is_number(text):
    """Return whether the text is 0, or digits of which the first is not 0."""
    # Stripping leaves nothing exactly if there is no other sign anywhere.
    if not 1 <= len(text) <= _MOST_DIGITS or text.strip(_DIGITS) != "":
        return False
    return text == "0" or text[0] != "0"


def is_signed_number(text):
    """Return whether the text is a number, or a minus and a number but 0."""
    if text.startswith("-"):
        return text != "-0" and _is_number(text[1:])
    return _is_number(text)
