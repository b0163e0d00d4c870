"""Tables: with which share a rule comes to each state and sum of scores, folk by folk; and spreads of values.

While shares are gathered they are kept as parts, a tuple (bottom, tops): a dict of
whole numbers, each so many parts of the one bottom. So they are added as numbers, and
brought to lowest terms once, when they are told.
"""

from trialdeal.dealings import need_few
from trialdeal.errors import NoFolk, NoNumber
from trialdeal.shares import common_bottom, share_of, sum_shares
from trialdeal.words import has_truth, is_number, is_whole

MOST_SCORE = 100000


def are_scores(thing, folk):
    """Whether a thing is a list of scores for so many folk."""
    if not isinstance(thing, list) or len(thing) != folk:
        return False
    return all([is_whole(score, -MOST_SCORE, MOST_SCORE) for score in thing])


def steps_from(rule, keys, at):
    """For each state in keys (state, sum) the steps of the folk at."""
    steps = {}
    for state, total in keys:
        if state not in steps:
            steps[state] = rule.steps(state, at)
    return steps


def next_layer(rule, at, score, layer):
    """The layer behind the folk at, which has this score, as parts; that ahead of it is told as parts too."""
    bottom, tops = layer
    steps = steps_from(rule, tops, at)
    finer = common_bottom([share for ways in steps.values() for hand, share, behind in ways])
    behind_tops = {}
    for (state, total), top in tops.items():
        for hand, share, behind in steps[state]:
            key = (behind, total + hand * score)
            behind_tops[key] = behind_tops.get(key, 0) + top * share[0] * (finer // share[1])
    need_few(len(behind_tops))
    return (bottom * finer, behind_tops)


def layers_of(rule, scores):
    """All layers of the table, as parts."""
    if not are_scores(scores, rule.folk()):
        raise NoFolk(scores)
    layers = [(1, {(rule.begin(), 0): 1})]
    for at, score in enumerate(scores):
        layers.append(next_layer(rule, at, score, layers[-1]))
    return layers


def table_of(rule, scores):
    """A list of dicts, one for each beginning, from tuples (state, sum) to shares."""
    return [{key: share_of(top, bottom) for key, top in tops.items()} for bottom, tops in layers_of(rule, scores)]


def shows_table(rule, scores, thing):
    """Whether a thing is the table of a rule and scores."""
    # A truth equals the number that it stands in the place of, but is of another kind.
    return thing == table_of(rule, scores) and not has_truth(thing)


def told_spread(parts):
    """The spread of values, rising, that are told as parts."""
    bottom, tops = parts
    return {value: share_of(tops[value], bottom) for value in sorted(tops)}


def spread_of(rule, scores):
    """With which share the sum of the scores of all in hand 1 is each value."""
    bottom, tops = layers_of(rule, scores)[-1]
    values = {}
    for (state, total), top in tops.items():
        values[total] = values.get(total, 0) + top
    return told_spread((bottom, values))


def need_value(thing):
    """Refuse what is no whole number."""
    if not is_number(thing):
        raise NoNumber(thing)


def share_from(spread, value):
    """The share of all values that are at least as great."""
    need_value(value)
    return sum_shares([spread[key] for key in spread if key >= value])


def share_to(spread, value):
    """The share of all values that are at most as great."""
    need_value(value)
    return sum_shares([spread[key] for key in spread if key <= value])
