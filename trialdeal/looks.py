"""Looks at a trial that is still going on: which dealings are called at each of them, and what is spent by that."""

from trialdeal.dealings import dealing_parts, need_among
from trialdeal.errors import NoLooks, TooMany
from trialdeal.measures import value_of
from trialdeal.outcomes import need_outcomes_of
from trialdeal.rules import First, need_number
from trialdeal.shares import ALL, NONE, is_share, less_share, share_of, times_share
from trialdeal.toldshare import need_level
from trialdeal.words import has_truth, is_number, is_whole

MOST_LOOKS = 6
MOST_LOOKED_AT = 12


class Spending:
    """What all spendings have in common; each spending of its own tells its parts."""

    def __init__(self, name):
        self.name = name

    def word(self):
        """The word of the spending."""
        return self.name

    def dealt_out(self, level, many):
        """The levels of so many looks, a list of shares."""
        need_level(level)
        need_number(many, 1, MOST_LOOKS)
        return [times_share(level, self.part_till(look + 1, many)) for look in range(many)]

    def part_till(self, past, many):
        """Which part of the level may be spent by the first looks, so many of all."""
        raise NotImplementedError("each spending of its own tells its parts")


class Even(Spending):
    """As much at each look."""

    def __init__(self):
        Spending.__init__(self, "even")

    def part_till(self, past, many):
        """As the looks are to all looks."""
        return share_of(past, many)


class Late(Spending):
    """More at each look than at the one ahead."""

    def __init__(self):
        Spending.__init__(self, "late")

    def part_till(self, past, many):
        """The square of the even part."""
        return share_of(past * past, many * many)


class Last(Spending):
    """All at the last look."""

    def __init__(self):
        Spending.__init__(self, "last")

    def part_till(self, past, many):
        """Nothing ahead of the last look."""
        return ALL if past == many else NONE


def is_level_at(levels, look):
    """Whether the level of a look is a share, not less than the one ahead of it."""
    if not is_share(levels[look]):
        return False
    return look == 0 or not less_share(levels[look], levels[look - 1])


def is_bound_at(bounds, look):
    """Whether the bound of a look is a whole number or None."""
    return bounds[look] is None or is_number(bounds[look])


def is_number_at(numbers, look, folk):
    """Whether a look is at more folk than the one ahead of it, and at no more than there are."""
    least = 1 if look == 0 else numbers[look - 1] + 1
    return is_whole(numbers[look], least, folk)


def are_looks(numbers, limits):
    """Whether two things are lists with one thing for each of one to six looks."""
    if not isinstance(numbers, list) or not isinstance(limits, list):
        return False
    return len(numbers) == len(limits) and is_whole(len(numbers), 1, MOST_LOOKS)


def need_looks(rule, outcomes, numbers, limits, is_limit_at):
    """Refuse what are no looks; limits are what tells who is called, levels or bounds."""
    folk = rule.folk()
    if folk > MOST_LOOKED_AT:
        raise TooMany(folk)
    need_outcomes_of(outcomes, folk)
    if not are_looks(numbers, limits):
        raise NoLooks(None)
    for look in range(len(numbers)):
        if not is_number_at(numbers, look, folk) or not is_limit_at(limits, look):
            raise NoLooks(look)


def points_at_looks(rule, outcomes, measure, numbers):
    """The scores at each look, by the outcomes known there alone."""
    return [measure.scores(First(rule, many), outcomes[:many]) for many in numbers]


def valued_at(points, left):
    """A list of tuples (value, dealing, top) of the dealings left, by the scores at a look."""
    known = (1 << len(points)) - 1
    return [(value_of(points, dealing & known), dealing, top) for dealing, top in left]


def value_rows(valued):
    """A list of tuples (value, top), the greatest value first."""
    tops = {}
    for value, dealing, top in valued:
        tops[value] = tops.get(value, 0) + top
    return [(value, tops[value]) for value in sorted(tops, reverse=True)]


def bound_by(level, rows, spent, bottom):
    """The least value from which on all may be called, where so many parts of bottom are spent already, or None."""
    bound = None
    whole = spent
    for value, top in rows:
        whole += top
        if whole * level[1] > level[0] * bottom:
            return bound
        bound = value
    return bound


def is_called(value, bound):
    """Whether a value is called by a bound."""
    return bound is not None and value >= bound


def look_by_look(rule, all_points, choose):
    """For each look a tuple (bound, spent, rows, called), and the dealings (dealing, top) that are never called.

    The bound of a look is chosen by its number, its rows, and how much of which bottom is spent ahead.
    """
    bottom, left = dealing_parts(rule)
    spent = 0
    gone = []
    for look, points in enumerate(all_points):
        valued = valued_at(points, left)
        rows = value_rows(valued)
        bound = choose(look, rows, spent, bottom)
        called = tuple([dealing for value, dealing, top in valued if is_called(value, bound)])
        left = [(dealing, top) for value, dealing, top in valued if not is_called(value, bound)]
        spent += sum([top for value, top in rows if is_called(value, bound)])
        told_rows = tuple([(value, share_of(top, bottom)) for value, top in rows])
        gone.append((bound, share_of(spent, bottom), told_rows, called))
    return gone, left


class Looks:
    """A trial that is looked at several times, each time with a level till which may be called."""

    def __init__(self, rule, outcomes, measure, numbers, levels):
        need_looks(rule, outcomes, numbers, levels, is_level_at)
        all_points = points_at_looks(rule, outcomes, measure, numbers)
        gone, left = look_by_look(
            rule, all_points, lambda look, rows, spent, bottom: bound_by(levels[look], rows, spent, bottom)
        )
        self.gone = tuple(gone)
        self.look_of = {dealing: None for dealing, top in left}
        self.look_of.update({dealing: look for look, row in enumerate(gone) for dealing in row[3]})

    def bounds(self):
        """The bound of each look, None where nobody is called."""
        return [bound for bound, spent, rows, called in self.gone]

    def spent(self):
        """The share of all dealings called till each look."""
        return [spent for bound, spent, rows, called in self.gone]

    def rows_at(self, look):
        """Tuples (value, share) of the dealings not called ahead of a look, the greatest value first."""
        need_number(look, 0, len(self.gone) - 1)
        return list(self.gone[look][2])

    def called(self, dealing):
        """The number of the look at which a dealing is called, or None."""
        need_among(dealing, self.look_of)
        return self.look_of[dealing]


def spent_by(rule, outcomes, measure, numbers, bounds):
    """The share of all dealings called till each look by bounds that somebody has set."""
    need_looks(rule, outcomes, numbers, bounds, is_bound_at)
    all_points = points_at_looks(rule, outcomes, measure, numbers)
    gone, left = look_by_look(rule, all_points, lambda look, rows, spent, bottom: bounds[look])
    return [spent for bound, spent, rows, called in gone]


def shows_bounds(rule, outcomes, measure, numbers, levels, thing):
    """Whether a thing is the list of the bounds of these looks."""
    bounds = Looks(rule, outcomes, measure, numbers, levels).bounds()
    return thing == bounds and not has_truth(thing)
