"""Shifts: by how much hand 1 may have been better, and which stretch of them is not ruled out at a level."""

from trialdeal.dealings import dealing_parts, hand_of, need_dealt, need_hands, ones_of
from trialdeal.errors import NoChoice
from trialdeal.measures import Signs, Sum, need_sure, value_of
from trialdeal.outcomes import need_outcomes
from trialdeal.rules import need_number
from trialdeal.shares import less_share, share_of
from trialdeal.toldshare import need_level
from trialdeal.words import has_truth, is_whole

MOST_SHIFT = 10000


def need_shift(thing):
    """Refuse what is no shift."""
    need_number(thing, -MOST_SHIFT, MOST_SHIFT)


def taken_off(outcomes, dealing, shift):
    """The numbers that would have come of all without hand 1, if the shift were so."""
    need_outcomes(outcomes)
    need_sure(outcomes)
    need_hands(dealing, len(outcomes))
    need_shift(shift)
    return [number - shift * hand_of(dealing, at) for at, (number, sure) in enumerate(outcomes)]


def sign_of(number):
    """1 of what is above 0, -1 of what is below it, else 0."""
    if number == 0:
        return 0
    return 1 if number > 0 else -1


def points_by(measure, numbers):
    """The scores that the sum or the signs give by numbers, whatever their size."""
    if isinstance(measure, Sum):
        return numbers
    return [sign_of(number - numbers[at ^ 1]) for at, number in enumerate(numbers)]


def need_seen(rule, outcomes, measure, dealing):
    """Refuse what no shifts can be told of."""
    if not isinstance(measure, (Sum, Signs)):
        raise NoChoice(measure)
    # The scores by the outcomes as they are play no part, but what is refused of them is refused here too.
    measure.scores(rule, outcomes)
    need_sure(outcomes)
    need_dealt(rule, dealing)


class Seen:
    """A seen dealing beside all dealings of its rule, of each the folk in hand 1 and its top."""

    def __init__(self, rule, outcomes, measure, dealing):
        bottom, dealt = dealing_parts(rule)
        self.outcomes = tuple(outcomes)
        self.measure = measure
        self.dealing = dealing
        self.bottom = bottom
        self.sides = tuple([(ones_of(other, len(outcomes)), top) for other, top in dealt])

    def shares_at(self, shift):
        """The high and the low share of a shift."""
        points = points_by(self.measure, taken_off(list(self.outcomes), self.dealing, shift))
        seen = value_of(points, self.dealing)
        high = 0
        low = 0
        for folk, top in self.sides:
            value = sum([points[at] for at in folk])
            if value >= seen:
                high += top
            if value <= seen:
                low += top
        return (share_of(high, self.bottom), share_of(low, self.bottom))


def shift_shares(rule, outcomes, measure, dealing, shift):
    """The share of all dealings that come at least as high as the seen one, and of those at most as high."""
    need_seen(rule, outcomes, measure, dealing)
    need_shift(shift)
    return Seen(rule, outcomes, measure, dealing).shares_at(shift)


def first_shift(holds):
    """The least shift from which on something holds, or the number behind all shifts."""
    least = -MOST_SHIFT
    behind = MOST_SHIFT + 1
    while least < behind:
        middle = (least + behind) // 2
        if holds(middle):
            behind = middle
        else:
            least = middle + 1
    return least


def ends_of(seen, level):
    """The least shift that its high share does not rule out, and the least one that its low share does."""
    # The high share never falls as the shift grows, the low share never rises.
    least = first_shift(lambda shift: less_share(level, seen.shares_at(shift)[0]))
    behind = first_shift(lambda shift: not less_share(level, seen.shares_at(shift)[1]))
    return least, behind


def stretch_between(least, behind):
    """The stretch from its least shift to the one ahead of another one, open at the ends of all shifts."""
    if least >= behind:
        return None
    return (None if least == -MOST_SHIFT else least, None if behind > MOST_SHIFT else behind - 1)


def shown_shifts(least, behind):
    """The shifts by whose shares this stretch is shown, rising."""
    if least > MOST_SHIFT:
        return [MOST_SHIFT]
    if behind == -MOST_SHIFT:
        return [-MOST_SHIFT]
    if least >= behind:
        return sorted({least - 1, behind})
    low = [least] if least == -MOST_SHIFT else [least - 1, least]
    high = [MOST_SHIFT] if behind > MOST_SHIFT else [behind - 1, behind]
    return sorted(set(low + high))


def seen_at_level(rule, outcomes, measure, dealing, level):
    """The seen dealing, where neither it nor the level is refused."""
    need_seen(rule, outcomes, measure, dealing)
    need_level(level)
    return Seen(rule, outcomes, measure, dealing)


def stretch_of(rule, outcomes, measure, dealing, level):
    """The least and the greatest shift that are not ruled out, None where it is open; None where all are."""
    least, behind = ends_of(seen_at_level(rule, outcomes, measure, dealing, level), level)
    return stretch_between(least, behind)


def stretch_paper(rule, outcomes, measure, dealing, level):
    """A tuple (stretch, rows) that shows the stretch by the shares of few shifts."""
    seen = seen_at_level(rule, outcomes, measure, dealing, level)
    least, behind = ends_of(seen, level)
    rows = []
    for shift in shown_shifts(least, behind):
        high, low = seen.shares_at(shift)
        rows.append((shift, high, low))
    return (stretch_between(least, behind), rows)


def is_shift(thing):
    """Whether a thing is a shift."""
    return is_whole(thing, -MOST_SHIFT, MOST_SHIFT)


def is_stretch(thing):
    """Whether a thing has the form of a stretch."""
    if thing is None:
        return True
    if not isinstance(thing, tuple) or len(thing) != 2:
        return False
    return all([end is None or is_shift(end) for end in thing])


def is_row(thing):
    """Whether a thing is a tuple of a shift and two other things."""
    return isinstance(thing, tuple) and len(thing) == 3 and is_shift(thing[0])


def is_paper(thing):
    """Whether a thing has the form of a paper, whatever stands in the place of its shares."""
    if not isinstance(thing, tuple) or len(thing) != 2:
        return False
    stretch, rows = thing
    return is_stretch(stretch) and isinstance(rows, list) and all([is_row(row) for row in rows])


def right_shares(seen, rows):
    """A dict from the shift of each row to its two shares, or None where a row tells others."""
    shares = {}
    for row in rows:
        if row[0] not in shares:
            shares[row[0]] = seen.shares_at(row[0])
        if row[1:] != shares[row[0]] or has_truth(row):
            return None
    return shares


def shifts_out(shares, level, side):
    """The shifts whose share of a side, 0 the high one, 1 the low one, is not above the level."""
    return [shift for shift in shares if not less_share(level, shares[shift][side])]


def is_in(shares, level, shift, side):
    """Whether there is a row of a shift whose share of a side is above the level."""
    return shift in shares and less_share(level, shares[shift][side])


def is_kept(shares, level, shift):
    """Whether there is a row of a shift that is not ruled out."""
    return is_in(shares, level, shift, 0) and is_in(shares, level, shift, 1)


def shows_none(shares, level):
    """Whether rows show that all shifts are ruled out."""
    high_out = shifts_out(shares, level, 0)
    low_out = shifts_out(shares, level, 1)
    if MOST_SHIFT in high_out or -MOST_SHIFT in low_out:
        return True
    return len(high_out) > 0 and len(low_out) > 0 and min(low_out) <= max(high_out) + 1


def shows_least(least, shares, level):
    """Whether rows show the least shift of the stretch, or that it is open there."""
    if least is None:
        return is_in(shares, level, -MOST_SHIFT, 0)
    return is_kept(shares, level, least) and least - 1 in shifts_out(shares, level, 0)


def shows_greatest(greatest, shares, level):
    """Whether rows show the greatest shift of the stretch, or that it is open there."""
    if greatest is None:
        return is_in(shares, level, MOST_SHIFT, 1)
    return is_kept(shares, level, greatest) and greatest + 1 in shifts_out(shares, level, 1)


def shows_stretch(rule, outcomes, measure, dealing, level, thing):
    """Whether a thing is a paper for the stretch."""
    seen = seen_at_level(rule, outcomes, measure, dealing, level)
    if not is_paper(thing):
        return False
    stretch, rows = thing
    shares = right_shares(seen, rows)
    if shares is None:
        return False
    if stretch is None:
        return shows_none(shares, level)
    return shows_least(stretch[0], shares, level) and shows_greatest(stretch[1], shares, level)
