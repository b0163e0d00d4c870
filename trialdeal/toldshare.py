"""Told shares: which share of all dealings would have measured at least as much, and which are called at a level."""

from trialdeal.dealings import all_dealings, need_dealt
from trialdeal.errors import NoLevel
from trialdeal.measures import value_of
from trialdeal.shares import NONE, is_share, less_share, plus_share
from trialdeal.tables import share_from, spread_of


def told_share(rule, outcomes, measure, dealing):
    """The share of all dealings whose value is at least as great as that of this one."""
    scores = measure.scores(rule, outcomes)
    need_dealt(rule, dealing)
    return share_from(spread_of(rule, scores), value_of(scores, dealing))


def need_level(thing):
    """Refuse what is no level."""
    if not is_share(thing):
        raise NoLevel(thing)


def least_called(spread, level):
    """The least value whose dealings are called at a level, or None where none are."""
    least = None
    whole = NONE
    for value in sorted(spread, reverse=True):
        whole = plus_share(whole, spread[value])
        if less_share(level, whole):
            return least
        least = value
    return least


def called_at(rule, outcomes, measure, level):
    """The dealings of a rule that are called at a level, rising."""
    scores = measure.scores(rule, outcomes)
    need_level(level)
    dealings = all_dealings(rule)
    least = least_called(spread_of(rule, scores), level)
    if least is None:
        return []
    return [dealing for dealing, share in dealings if value_of(scores, dealing) >= least]
