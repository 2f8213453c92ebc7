"""The lines of the text of a roll."""

from grantroll.grants import ENTRIES, grant_error


def owners_line(owners):
    """The first line of the text, for owners in ascending order."""
    return " ".join(["owners", *owners])


def grant_line(grant):
    """The text of the grant."""
    return " ".join([str(entry) for entry in grant])


def is_number_text(word):
    """Whether the word consists of digits, perhaps with a minus sign before them."""
    digits = word.removeprefix("-")
    return digits.isdecimal()


def line_words(line):
    """The words of a line: whatever stands between two spaces, even nothing."""
    return line.split(" ")


def read_grant(line):
    """The grant with this text, or None if there is none."""
    words = line_words(line)
    if len(words) != ENTRIES:
        return None
    time, giver, taker, level, passes = words
    if not all([is_number_text(word) for word in (time, level, passes)]):
        return None
    grant = (int(time), giver, taker, int(level), int(passes))
    # A number with leading zeros, or -0, is read like the right text but not written so.
    if grant_error(grant) is not None or grant_line(grant) != line:
        return None
    return grant
