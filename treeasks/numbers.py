"""What whole numbers and fractions are, and which numbers a text writes."""

FIGURES = "0123456789"
# The most that a number in a text has; all tops and bottoms of prices that are told here have fewer.
MOST_FIGURES = 70


def is_whole(thing):
    return isinstance(thing, int) and not isinstance(thing, bool)


def is_between(thing, least, most):
    return is_whole(thing) and least <= thing <= most


def greatest_common(number, bottom):
    # With a bottom above nought each rest is from nought on, so a number below nought needs no care.
    while bottom != 0:
        number, bottom = bottom, number % bottom
    return number


def is_fraction(thing):
    if not isinstance(thing, tuple) or len(thing) != 2:
        return False
    top, bottom = thing
    if not is_whole(top) or not is_whole(bottom):
        return False
    return bottom >= 1 and greatest_common(top, bottom) == 1


def whole_in(text, most_figures):
    # The number from 0 on that the text writes in so many figures at most, None where it writes none.
    if not 1 <= len(text) <= most_figures or not all([sign in FIGURES for sign in text]):
        return None
    return int(text) if text == "0" or text[0] != "0" else None
