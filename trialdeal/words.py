"""Whole numbers, and the words that plainly write them."""

FIGURES = "0123456789"


def is_number(thing):
    """Whether a thing is a whole number of any size; a truth is none."""
    return isinstance(thing, int) and not isinstance(thing, bool)


def has_truth(thing):
    """Whether a thing is a truth, or one stands anywhere within it."""
    if isinstance(thing, (list, tuple)):
        return any([has_truth(part) for part in thing])
    if isinstance(thing, dict):
        return any([has_truth(key) or has_truth(thing[key]) for key in thing])
    return isinstance(thing, bool)


def is_whole(thing, low, high):
    """Whether a thing is a whole number from low to high, both counted."""
    return is_number(thing) and low <= thing and thing <= high


def count_in(text):
    """The number from 0 on that a text plainly writes, or None."""
    if text == "" or (text.startswith("0") and text != "0"):
        return None
    # Read figure by figure, as int() has a bound of its own on how many it takes.
    number = 0
    for sign in text:
        worth = FIGURES.find(sign)
        if worth < 0:
            return None
        number = number * 10 + worth
    return number


def number_in(text):
    """The whole number that a text plainly writes, or None."""
    if not text.startswith("-"):
        return count_in(text)
    number = count_in(text[1:])
    if number is None or number == 0:
        return None
    return -number


def whole_in(thing, low, high):
    """The whole number from low to high that a thing, a text, plainly writes, or None."""
    if not isinstance(thing, str):
        return None
    number = number_in(thing)
    return number if is_whole(number, low, high) else None
