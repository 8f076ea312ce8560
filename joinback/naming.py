"""What others share of names."""

from joinback.errors import BadName, NoName

LETTERS = "abcdefghijklmnopqrstuvwxyz"
LONGEST = 8


def is_name(thing):
    """Whether a thing of any kind is a NAME: one to eight letters a to z."""
    if not isinstance(thing, str):
        return False
    if len(thing) < 1 or len(thing) > LONGEST:
        return False
    return all([sign in LETTERS for sign in thing])


def check_new(there, thing, place):
    """Refuses the thing at a place where it is no NAME or is among the names that are there."""
    if not is_name(thing) or thing in there:
        raise BadName(place)


def check_names(things):
    """Refuses a list at the first place whose thing is no NAME or was there ahead."""
    for place, thing in enumerate(things):
        check_new(things[:place], thing, place)


def check_there(there, name):
    """Refuses a name that isn't among those that are there."""
    if name not in there:
        raise NoName(f"{name} is not there")
