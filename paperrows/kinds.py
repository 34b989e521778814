"""Of what kind a thing is; all of it may be asked of anything."""

GREATEST = 1000000


def is_whole(thing):
    """Tell whether a thing is a whole number."""
    # A truth is an int for isinstance, too.
    return type(thing) is int


def is_between(thing, least, most):
    """Tell whether a thing is a whole number from least to most."""
    return type(thing) is int and least <= thing <= most


def is_number(thing):
    """Tell whether a thing is a whole number of the size that is handed in outside of forms."""
    return type(thing) is int and -GREATEST <= thing <= GREATEST


def is_sequence(thing):
    """Tell whether a thing is a list or a tuple."""
    return isinstance(thing, (list, tuple))


def are_whole(things):
    """Tell whether all things of a list or tuple are whole numbers."""
    for thing in things:
        if type(thing) is not int:
            return False
    return True


def is_form(thing):
    """Tell whether a thing is a form."""
    return isinstance(thing, tuple) and len(thing) > 0 and are_whole(thing)


def is_form_of(thing, length):
    """Tell whether a thing is a form of so many numbers, at least one."""
    return isinstance(thing, tuple) and len(thing) == length and are_whole(thing)


def are_forms(things, most, length):
    """Tell whether things are a list or tuple of at most so many forms, each of so many numbers."""
    if not isinstance(things, (list, tuple)) or len(things) > most:
        return False
    for thing in things:
        if not is_form_of(thing, length):
            return False
    return True


def furthest(form):
    """Tell the greatest number of a form, signs aside."""
    return max(max(form), -min(form))


def copied(thing):
    """Tell a thing that is equal, but with lists and dicts of its own, those within it too."""
    if isinstance(thing, list):
        return [part if type(part) is int else copied(part) for part in thing]
    if isinstance(thing, tuple):
        return tuple([part if type(part) is int else copied(part) for part in thing])
    if isinstance(thing, dict):
        return {key: copied(part) for key, part in thing.items()}
    return thing
