"""Powers: with which share of dealings a trial is called in a told world, and how many folk it needs."""

from trialdeal.dealings import all_dealings
from trialdeal.errors import NoShare
from trialdeal.halves import Halves
from trialdeal.measures import value_of
from trialdeal.rules import MOST_FOLK, Coins, Pairs, Split, need_number
from trialdeal.shares import is_share, less_share, sum_shares
from trialdeal.toldshare import need_level
from trialdeal.words import is_whole
from trialdeal.worlds import all_told, seen_of


def power_rows(rule, world, measure):
    """A tuple (dealing, share, told) for each dealing, its told share by what would be seen under it."""
    dealings = all_dealings(rule)
    told = all_told(rule.folk(), world)
    halves = Halves(rule)
    rows = []
    for dealing, share in dealings:
        points = measure.scores(rule, seen_of(told, dealing))
        rows.append((dealing, share, halves.share_from_value(points, value_of(points, dealing))))
    return rows


def power_of(rule, world, measure, level):
    """The share of all dealings that would be called at a level."""
    need_level(level)
    rows = power_rows(rule, world, measure)
    return sum_shares([share for dealing, share, told in rows if not less_share(level, told)])


def maker_by(make):
    """The maker that makes rules so, and has none for numbers of folk that are not dealt."""
    return lambda folk: make(folk) if is_whole(folk, 1, MOST_FOLK) else None


def split_maker():
    """The maker of splits of ones half the folk, rounded down."""
    return maker_by(lambda folk: Split(folk, folk // 2))


def pairs_maker(coin):
    """The maker of pairs by a coin."""
    # Made once ahead, as the coin is refused when the maker is asked for.
    Pairs(1, coin)
    return maker_by(lambda folk: Pairs(folk // 2, coin) if folk % 2 == 0 else None)


def coins_maker(coin, far):
    """The maker of coins with a bound far."""
    Coins(1, coin, far)
    return maker_by(lambda folk: Coins(folk, coin, far))


def least_folk(maker, world, measure, level, wanted, least, most):
    """The first number of folk whose power is not below the wanted share, a tuple (folk, power), or None."""
    need_level(level)
    if not is_share(wanted):
        raise NoShare(wanted)
    need_number(least, 1, MOST_FOLK)
    need_number(most, least, MOST_FOLK)
    for folk in range(least, most + 1):
        rule = maker(folk)
        if rule is not None:
            power = power_of(rule, world, measure, level)
            if not less_share(power, wanted):
                return (folk, power)
    return None
