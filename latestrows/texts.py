"""Reads the texts of times, looks and readers (point 14).

A text is read without a close look at its commas, spaces and digits. What it
was read as has one text, and that one has to be the text that was passed.
"""

from latestrows.errors import InvalidText, LatestError, LimitError
from latestrows.kinds import integer_in
from latestrows.readers import Constant, Else, IfEarlier, Missing, Value
from latestrows.times import After, Before, Ceil, Floor, Now, RowTime, Shift

# No text of a time, a look or a reader within the limits opens more brackets at once.
MAX_BRACKETS = 50


def read_time(text):
    return _whole(text, _time)


def read_look(text):
    return _whole(text, _look)


def read_reader(text):
    return _whole(text, _reader)


def _whole(text, made):
    if not isinstance(text, str):
        raise InvalidText(text)
    try:
        term, _ = _term(text, 0, MAX_BRACKETS)
        thing = made(term)
    except (LatestError, LimitError):
        raise InvalidText(text) from None
    if thing.text != text:
        raise InvalidText(text)
    return thing


def _term(text, start, brackets):
    """The term that begins at the start, a pair of a word and the terms in its brackets, and where it ends."""
    end = start
    while end < len(text) and text[end] not in "(),":
        end += 1
    word = text[start:end]
    if text[end:end + 1] != "(":
        return (word, []), end
    if brackets == 0:
        raise InvalidText(text)
    inside = []
    while text[end:end + 1] != ")":
        # Over the opening bracket, or over the comma and the space.
        begin = end + 1 if not inside else end + 2
        if begin > len(text):
            raise InvalidText(text)
        term, end = _term(text, begin, brackets - 1)
        inside.append(term)
    return (word, inside), end + 1


def _time(term):
    word, inside = term
    if word == "now" and len(inside) == 0:
        return Now()
    if word == "shift" and len(inside) == 2:
        return Shift(_time(inside[0]), _integer(inside[1]))
    if word == "floor" and len(inside) == 1:
        return Floor(_time(inside[0]))
    if word == "ceil" and len(inside) == 1:
        return Ceil(_time(inside[0]))
    if word == "time" and len(inside) == 1:
        return RowTime(_look(inside[0]))
    raise InvalidText(word)


def _look(term):
    word, inside = term
    strict = len(inside) > 2 and inside[-1] == ("strict", [])
    many = len(inside) - 1 if strict else len(inside)
    if word not in ("before", "after") or many not in (2, 3):
        raise InvalidText(word)
    feed, time = _word(inside[0]), _time(inside[1])
    within = _integer(inside[2]) if many == 3 else None
    if word == "before":
        return Before(feed, time, within=within, strict=strict)
    return After(feed, time, within=within, strict=strict)


def _reader(term):
    word, inside = term
    if word == "missing" and len(inside) == 0:
        return Missing()
    if word == "value" and len(inside) == 1:
        return Value(_look(inside[0]))
    if word == "constant" and len(inside) == 1:
        return Constant(_integer(inside[0]))
    if word == "else" and len(inside) == 2:
        return Else(_reader(inside[0]), _reader(inside[1]))
    if word == "ifearlier" and len(inside) == 4:
        first, second = _reader(inside[2]), _reader(inside[3])
        return IfEarlier(_time(inside[0]), _time(inside[1]), first, second)
    raise InvalidText(word)


def _word(term):
    word, inside = term
    if inside:
        raise InvalidText(word)
    return word


def _integer(term):
    return integer_in(_word(term))
