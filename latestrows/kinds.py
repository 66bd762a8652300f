"""What integers, names, rows and grids are, and the errors for values that are none."""

from latestrows.errors import InvalidGrid, InvalidName, InvalidNumber, InvalidText, InvalidTime
from latestrows.limits import MAX_STEP

MAX_NAME = 8


def is_integer(value):
    # Python counts True and False as integers; here they are none.
    return isinstance(value, int) and not isinstance(value, bool)


def is_name(value):
    if not isinstance(value, str) or not 1 <= len(value) <= MAX_NAME:
        return False
    return _is_letter(value[0]) and all([_is_letter(sign) or _is_digit(sign) for sign in value])


# The methods isalpha and isdigit would take letters and digits of other scripts, too.
def _is_letter(sign):
    return "a" <= sign <= "z"


def _is_digit(sign):
    return "0" <= sign <= "9"


def is_row(value):
    if not isinstance(value, tuple) or len(value) != 3:
        return False
    feed, time, number = value
    return is_name(feed) and is_integer(time) and is_integer(number)


def is_grid(value):
    if not isinstance(value, tuple) or len(value) != 2:
        return False
    step, offset = value
    return is_integer(step) and 1 <= step <= MAX_STEP and is_integer(offset) and 0 <= offset < step


def integer_text(number):
    # A class that derives from Python's integers may print itself in another way.
    return str(int(number))


def integer_in(word):
    """The integer that the word is read as, also if Python prints it in another way."""
    digits = word.removeprefix("-")
    if digits == "" or not all([_is_digit(sign) for sign in digits]):
        raise InvalidText(word)
    return int(word)


def check_name(value):
    if not is_name(value):
        raise InvalidName(value)


def check_time(value):
    if not is_integer(value):
        raise InvalidTime(value)


def check_number(value):
    if not is_integer(value):
        raise InvalidNumber(value)


def check_grid(value):
    if value is not None and not is_grid(value):
        raise InvalidGrid(value)
