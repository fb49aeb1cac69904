"""Whole numbers, names, and numbers written plainly [11]."""

LONGEST_NAME = 8
MOST_FIGURES = 16


def is_whole(thing, low, high):
    # A truth is an int for Python, but no whole number here.
    if isinstance(thing, bool) or not isinstance(thing, int):
        return False
    return low <= thing <= high


def all_between(text, first, last):
    # Asked sign by sign, as isdigit and islower take signs beyond ASCII, too.
    return all([first <= sign <= last for sign in text])


def is_name(thing):
    if not isinstance(thing, str):
        return False
    return 1 <= len(thing) <= LONGEST_NAME and all_between(thing, "a", "z")


def is_plain(text):
    if text == "0":
        return True
    figures = text[1:] if text.startswith("-") else text
    if not 1 <= len(figures) <= MOST_FIGURES:
        return False
    return figures[0] != "0" and all_between(figures, "0", "9")


def number_of(text, low, high):
    if not is_plain(text):
        return None
    number = int(text)
    return number if low <= number <= high else None
