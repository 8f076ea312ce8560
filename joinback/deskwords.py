"""The desk's words: how its rows are read, and how its answers are written."""

from joinback.errors import BadRow
from joinback.leading import RULES
from joinback.naming import is_name

FIGURES = "0123456789"
FARTHEST = 10 ** 12
WIDEST_TURN = 1000

# By a row's first word: what its other words are.
FORMS = {
    "name": ("name",),
    "drop": ("name",),
    "join": ("name", "name", "step"),
    "take": ("count",),
    "weigh": ("name", "step"),
    "with": ("name", "name"),
    "steps": ("name", "name"),
    "way": ("name", "name"),
    "few": ("name", "name"),
    "class": ("name",),
    "classes": (),
    "holding": (),
    "sum": ("name",),
    "leader": ("name", "rule"),
    "times": ("name", "name"),
    "then": ("count", "name", "name"),
}


def is_number_word(word, least, most):
    """Whether a word is a number within bounds, written as Python writes it."""
    figures = word[1:] if word.startswith("-") else word
    if figures == "" or not all([sign in FIGURES for sign in figures]):
        return False
    number = int(word)
    # Python writes no nought ahead and no -0.
    return str(number) == word and least <= number <= most


def fits(form, word):
    """Whether a word is what its form asks for."""
    if form == "name":
        return is_name(word)
    if form == "rule":
        return word in RULES
    if form == "step":
        return is_number_word(word, -FARTHEST, FARTHEST)
    return is_number_word(word, 0, FARTHEST)


def is_first_row(words):
    """Whether these are the words of a row that tells the turn."""
    return len(words) == 2 and words[0] == "turn" and is_number_word(words[1], 0, WIDEST_TURN)


def is_later_row(words):
    """Whether these are the words of a deed or an ask."""
    first, *others = words
    if first not in FORMS or len(others) != len(FORMS[first]):
        return False
    return all([fits(form, word) for form, word in zip(FORMS[first], others)])


def rows_in(text):
    """The list of the rows with signs, each the list of its words; refused at the first one that is wrong."""
    rows = text.split("\n")
    found = []
    for number, row in enumerate(rows):
        if row != "":
            words = row.split(" ")
            right = is_later_row(words) if found else is_first_row(words)
            if not right:
                raise BadRow(number)
            found.append(words)
    if len(found) == 0:
        raise BadRow(len(rows))
    return found


def yes_or_no(truth):
    """A truth as it is answered."""
    return "yes" if truth else "no"


def several(things):
    """Names, numbers or texts with a blank between."""
    if len(things) == 0:
        return "-"
    return " ".join([str(thing) for thing in things])


def several_classes(groups):
    """Classes with a stroke between."""
    if len(groups) == 0:
        return "-"
    return " / ".join([several(group) for group in groups])


def written_way(way):
    """A way as it is answered, None too."""
    if way is None:
        return "no"
    if len(way) == 0:
        return "here"
    return several([f"{number}+" if side == 1 else f"{number}-" for number, side in way])
