"""What others share of names."""

LETTERS = "abcdefghijklmnopqrstuvwxyz"
LONGEST = 8


def is_name(thing):
    """Whether a thing of any kind is a NAME: one to eight letters a to z."""
    if not isinstance(thing, str):
        return False
    if len(thing) < 1 or len(thing) > LONGEST:
        return False
    return all([sign in LETTERS for sign in thing])
