"""Of which kind any value is."""


def is_number(thing, low, high):
    """Whether any value is a number from low to high; a bool is none."""
    return isinstance(thing, int) and not isinstance(thing, bool) and low <= thing <= high


def is_list(thing):
    """Whether any value can stand where a list is documented."""
    return isinstance(thing, (list, tuple))


def is_tuple(thing, length):
    """Whether any value is a tuple of so many items."""
    return isinstance(thing, tuple) and len(thing) == length


def first_unfit(items, choices):
    """The index of the first item that is none of the choices or stands there before, None if there is none.

    The choices are a tuple, so that items that cannot be the key of a dict are judged, too.
    """
    for at, item in enumerate(items):
        if item not in choices or item in items[:at]:
            return at
    return None
