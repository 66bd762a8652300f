"""Values that are no times, no looks, no readers and no settings, for several tests."""

from latestrows.readers import Missing
from latestrows.settings import Setting
from latestrows.times import Before, Now, Shift

from nested import LOOK, SOME_LOOKS, SOME_READERS, SOME_TIMES
from wrong_values import NOT_INTEGERS, EqualToAll, NoTruth

NOT_SHIFTS = NOT_INTEGERS + [1000000001, -1000000001, 10 ** 60 - 1, -(10 ** 60) + 1]

ODD = [None, True, False, 0, 5, 1.5, "", b"", (), [], {}, object(), EqualToAll(), NoTruth()]

NOT_TIMES = ODD + ["now", "Now()", (Now(),), [Now()], Now, Shift] + SOME_LOOKS + SOME_READERS
NOT_LOOKS = ODD + ["before(a, now)", (LOOK,), [LOOK], Before] + SOME_TIMES + SOME_READERS
NOT_READERS = ODD + ["missing", "Missing()", (Missing(),), [Missing()], Missing] + SOME_TIMES + SOME_LOOKS
NOT_SETTINGS = ODD + ["any", "grid 5 1", (5, 1), Setting] + SOME_TIMES[:2] + SOME_READERS[:2]
