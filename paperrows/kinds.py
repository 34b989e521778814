"""Of what kind a thing is; all of it may be asked of anything."""

GREATEST = 1000000


def is_whole(thing):
    """Tell whether a thing is a whole number."""
    # For Python a truth is an int, too.
    return isinstance(thing, int) and not isinstance(thing, bool)


def is_between(thing, least, most):
    """Tell whether a thing is a whole number from least to most."""
    return is_whole(thing) and least <= thing <= most


def is_number(thing):
    """Tell whether a thing is a whole number of the size that is handed in outside of forms."""
    return is_between(thing, -GREATEST, GREATEST)


def is_sequence(thing):
    """Tell whether a thing is a list or a tuple."""
    return isinstance(thing, (list, tuple))


def is_form(thing):
    """Tell whether a thing is a form."""
    return isinstance(thing, tuple) and len(thing) > 0 and all([is_whole(number) for number in thing])


def is_form_of(thing, length):
    """Tell whether a thing is a form of so many numbers."""
    return is_form(thing) and len(thing) == length


def are_forms(things, most, length):
    """Tell whether things are a list or tuple of at most so many forms, each of so many numbers."""
    return is_sequence(things) and len(things) <= most and all([is_form_of(thing, length) for thing in things])


def copied(thing):
    """Tell a thing that is equal, but with lists and dicts of its own, those within it too."""
    if isinstance(thing, list):
        return [copied(part) for part in thing]
    if isinstance(thing, tuple):
        return tuple([copied(part) for part in thing])
    if isinstance(thing, dict):
        return {key: copied(part) for key, part in thing.items()}
    return thing
