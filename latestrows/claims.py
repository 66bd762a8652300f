"""Claims about readers on all tables at all times (point 23)."""

from latestrows.errors import InvalidText
from latestrows.kinds import is_integer, is_name
from latestrows.settings import Setting
from latestrows.texts import read_reader

ALIKE = "alike"
UNLIKE = "unlike"
AGE_AT_MOST = "age at most"
AGE = "age"
UNCHANGED = "unchanged"
CHANGED = "changed"


class Claim:
    """What a claim is about. There is a feed and a number if it is about one reader, and None if about two."""

    def __init__(self, word, readers, feed, number, setting):
        self.word = word
        self.readers = readers
        self.feed = feed
        self.number = number
        self.setting = setting


def claim_in(value):
    """The claim that the value is; None if it is none."""
    if not isinstance(value, tuple) or len(value) not in (4, 5) or not isinstance(value[0], str):
        return None
    word, *about, setting_text = value
    try:
        if word in (ALIKE, UNLIKE) and len(about) == 2:
            readers, feed, number = [read_reader(text) for text in about], None, None
        elif word in (AGE_AT_MOST, AGE, UNCHANGED, CHANGED) and len(about) == 3:
            text, feed, number = about
            readers = [read_reader(text)]
        else:
            return None
        setting = Setting.read(setting_text)
    except InvalidText:
        return None
    if len(about) == 3 and not (is_name(feed) and is_integer(number)):
        return None
    if setting.grid is None and any([len(reader.grid_times) > 0 for reader in readers]):
        return None
    return Claim(word, readers, feed, number, setting)
