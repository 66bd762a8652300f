"""Which parts and bounds of a reader can be left out, each by itself (point 20)."""

from latestrows.comparing import alike
from latestrows.readers import Missing, check_reader
from latestrows.settings import check_setting_for


def idle_parts(reader, setting):
    """The indexes of the parts in whose place nothing could be given."""
    check_reader(reader)
    check_setting_for([reader], setting)
    found = []
    for index in range(1, len(reader.parts)):
        if alike(reader, reader.replaced(index, Missing()), setting):
            found.append(index)
    return tuple(found)


def idle_bounds(reader, setting):
    """The indexes of the looks that need not be bounded."""
    check_reader(reader)
    check_setting_for([reader], setting)
    found = []
    for index, look in enumerate(reader.looks):
        if look.within is not None and alike(reader, reader.without_bound(look), setting):
            found.append(index)
    return tuple(found)
