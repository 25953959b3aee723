"""The lines of texts."""

from shadeguards.errors import ParseError


def lines_of(text):
    """Return the lines of the text, any value."""
    if not isinstance(text, str):
        raise ParseError(0, 0)
    # Only a newline separates lines; the other line breaks of Python are characters of a word.
    return text.split("\n")


def check_one_line(lines):
    """Raise an error if there is more than one line."""
    if len(lines) > 1:
        raise ParseError(1, 0)
