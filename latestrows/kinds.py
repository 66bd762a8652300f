"""What integers, names and rows are, and the errors for values that are none."""

from latestrows.errors import InvalidName, InvalidNumber, InvalidTime

MAX_NAME = 8


def is_integer(value):
    # Python counts True and False as integers; here they are none.
    return isinstance(value, int) and not isinstance(value, bool)


def is_name(value):
    if not isinstance(value, str) or not 1 <= len(value) <= MAX_NAME:
        return False
    return _is_letter(value[0]) and all([_is_letter(sign) or _is_digit(sign) for sign in value])


# The methods isalpha and isdigit would take letters and digits of other scripts, too.
def _is_letter(sign):
    return "a" <= sign <= "z"


def _is_digit(sign):
    return "0" <= sign <= "9"


def is_row(value):
    if not isinstance(value, tuple) or len(value) != 3:
        return False
    feed, time, number = value
    return is_name(feed) and is_integer(time) and is_integer(number)


def check_name(value):
    if not is_name(value):
        raise InvalidName(value)


def check_time(value):
    if not is_integer(value):
        raise InvalidTime(value)


def check_number(value):
    if not is_integer(value):
        raise InvalidNumber(value)
