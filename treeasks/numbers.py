"""What whole numbers and fractions are."""


def is_whole(thing):
    return isinstance(thing, int) and not isinstance(thing, bool)


def is_between(thing, least, most):
    return is_whole(thing) and least <= thing <= most


def greatest_common(number, bottom):
    # With a bottom above nought each rest is from nought on, so a number below nought needs no care.
    while bottom != 0:
        number, bottom = bottom, number % bottom
    return number


def is_fraction(thing):
    if not isinstance(thing, tuple) or len(thing) != 2:
        return False
    top, bottom = thing
    if not is_whole(top) or not is_whole(bottom):
        return False
    return bottom >= 1 and greatest_common(top, bottom) == 1
