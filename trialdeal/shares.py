"""Shares: tuples (top, bottom) in lowest terms, from none, (0, 1), to all, (1, 1)."""

from trialdeal.errors import NoShare
from trialdeal.words import count_in, is_number, is_whole

NONE = (0, 1)
ALL = (1, 1)


def greatest_common(one, other):
    """The greatest number that divides both of two numbers from 0 on, not both 0."""
    while other > 0:
        one, other = other, one % other
    return one


def common_bottom(several):
    """The least number that the bottoms of all these shares divide."""
    bottom = 1
    for share in several:
        if bottom % share[1] != 0:
            bottom = bottom // greatest_common(bottom, share[1]) * share[1]
    return bottom


def is_part(top, bottom):
    """Whether two things are whole numbers such that there can be top parts of bottom."""
    return is_number(bottom) and bottom >= 1 and is_whole(top, 0, bottom)


def share_of(top, bottom):
    """The share that stands for top parts of bottom."""
    if not is_part(top, bottom):
        raise NoShare((top, bottom))
    common = greatest_common(top, bottom)
    return (top // common, bottom // common)


def is_share(thing):
    """Whether a thing is a share."""
    if not isinstance(thing, tuple) or len(thing) != 2:
        return False
    top, bottom = thing
    return is_part(top, bottom) and greatest_common(top, bottom) == 1


def added(one, top, bottom):
    """The share one and top parts of bottom together, in lowest terms, also where that is above all."""
    common = greatest_common(one[1], bottom)
    whole = one[0] * (bottom // common) + top * (one[1] // common)
    # Both being in lowest terms, only what their bottoms have in common can be
    # struck out of the sum: so long sums of small shares stay quick.
    struck = greatest_common(whole, common)
    return (whole // struck, one[1] // common * (bottom // struck))


def plus_share(one, other):
    """The sum of two shares."""
    total = added(one, other[0], other[1])
    if total[0] > total[1]:
        raise NoShare((one, other))
    return total


def minus_share(one, other):
    """By how much a share is more than another one."""
    if less_share(one, other):
        raise NoShare((one, other))
    return added(one, -other[0], other[1])


def times_share(one, other):
    """The product of two shares."""
    # Struck out crosswise ahead of multiplying, as small numbers are struck out sooner.
    left = greatest_common(one[0], other[1])
    right = greatest_common(other[0], one[1])
    return (one[0] // left * (other[0] // right), one[1] // right * (other[1] // left))


def less_share(one, other):
    """Whether a share is less than another one."""
    return one[0] * other[1] < other[0] * one[1]


def sum_shares(several):
    """The sum of a list of shares."""
    total = NONE
    for share in several:
        total = added(total, share[0], share[1])
        if total[0] > total[1]:
            raise NoShare(several)
    return total


def share_text(share):
    """The text that writes a share."""
    if share == NONE:
        return "0"
    if share == ALL:
        return "1"
    return f"{share[0]}/{share[1]}"


def share_in(thing):
    """The share that a thing, a text, writes, or None."""
    if not isinstance(thing, str):
        return None
    if thing == "0":
        return NONE
    if thing == "1":
        return ALL
    top, stroke, bottom = thing.partition("/")
    share = (count_in(top), count_in(bottom))
    # None and all have texts of their own, without a stroke.
    if not is_share(share) or share == NONE or share == ALL:
        return None
    return share
