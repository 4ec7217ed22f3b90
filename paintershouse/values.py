"""Values, their texts, and which texts are read."""

from paintershouse.errors import BadForm

MAX_VALUE = 60000
MAX_NESTED = 12
MAX_DIGITS = 6


def value_text(value):
    """Returns the text of a value."""
    if isinstance(value, tuple):
        return "(" + " ".join([value_text(part) for part in value]) + ")"
    if isinstance(value, int):
        return str(value)
    return value if value else "_"


def read_value(text):
    """Returns the value of a text."""
    if len(text) > MAX_VALUE:
        raise BadForm(0)
    return read_nested(text, MAX_NESTED, MAX_DIGITS)


def read_nested(text, nested, digits):
    """Returns the value of a text with at most so many tuples within one another, and so many digits in a number."""
    parts = [[]]
    for word in text.replace("(", " ( ").replace(")", " ) ").split():
        if word == "(":
            if len(parts) > nested:
                raise BadForm(1)
            parts.append([])
        elif word == ")":
            if len(parts) == 1:
                raise BadForm(1)
            inner = tuple(parts.pop())
            parts[-1].append(inner)
        else:
            parts[-1].append(_read_word(word, digits))
    # What is told with other spaces, or other zeros, has another text.
    if len(parts) > 1 or len(parts[0]) != 1 or value_text(parts[0][0]) != text:
        raise BadForm(1)
    return parts[0][0]


def _read_word(word, digits):
    """Returns the text or the integer that a word tells."""
    if word == "_":
        return ""
    if is_word(word):
        return word
    number = read_number(word.removeprefix("-"), digits)
    if number < 0:
        raise BadForm(1)
    return -number if word.startswith("-") else number


def read_number(word, digits):
    """Returns the number that a word of at most so many digits tells, without zeros ahead, or -1."""
    if not word.isascii() or not word.isdigit() or len(word) > digits:
        return -1
    if word.startswith("0") and len(word) > 1:
        return -1
    return int(word)


def is_word(text):
    """Tells whether a text is one or more small letters."""
    return text.isascii() and text.isalpha() and text.islower()


def is_nested(value, deep):
    """Tells whether a value is integers in tuples, in just so many within one another."""
    if deep == 0:
        return isinstance(value, int)
    return isinstance(value, tuple) and all([is_nested(part, deep - 1) for part in value])
