"""Trials poured together, and made into one trial in blocks."""

from trialdeal.dealings import need_few
from trialdeal.errors import NoTrials, TooMany
from trialdeal.measures import Weighted, may_be_inner
from trialdeal.rules import MOST_RULES, Blocks, may_be_block
from trialdeal.shares import common_bottom
from trialdeal.tables import share_from, told_spread
from trialdeal.trials import Trial
from trialdeal.words import is_whole

MOST_POURED = 20
MOST_POURED_FOLK = 60


def spread_parts(spread):
    """A spread as parts (bottom, tops): whole numbers, each so many parts of the one bottom."""
    bottom = common_bottom([spread[value] for value in spread])
    return (bottom, {value: spread[value][0] * (bottom // spread[value][1]) for value in spread})


def folded(one, other):
    """The parts of the sum of two values, one of each of two spreads that are told as parts."""
    bottom, tops = one
    finer, others = other
    sums = {}
    for value, top in tops.items():
        for more, part in others.items():
            sums[value + more] = sums.get(value + more, 0) + top * part
        # Looked at on the way, as a fold that is too great would take very long to its end.
        need_few(len(sums))
    return (bottom * finer, sums)


def poured_spread(one, other):
    """The spread of the sum of two values, each dealt by its own spread."""
    return told_spread(folded(spread_parts(one), spread_parts(other)))


def are_poured(thing):
    """Whether a thing is a list of trials and pours that may be poured together."""
    if not isinstance(thing, list) or not is_whole(len(thing), 1, MOST_POURED):
        return False
    return all([isinstance(each, (Trial, Poured)) for each in thing])


def trials_in(several):
    """All trials of a list of trials and pours, in order."""
    trials = []
    for each in several:
        trials.extend(each.trials if isinstance(each, Poured) else [each])
    return trials


class Poured:
    """Several trials as one; those of a pour stand in its place."""

    def __init__(self, trials):
        if not are_poured(trials):
            raise NoTrials(trials)
        several = trials_in(trials)
        folk = sum([trial.rule.folk() for trial in several])
        if folk > MOST_POURED_FOLK:
            raise TooMany(folk)
        self.trials = tuple(several)

    def seen(self):
        """The sum of the values that are seen."""
        return sum([trial.seen() for trial in self.trials])

    def spread(self):
        """All their spreads folded."""
        parts = (1, {0: 1})
        for trial in self.trials:
            parts = folded(parts, spread_parts(trial.spread()))
        return told_spread(parts)

    def share(self):
        """The share of all values at least as great as the one that is seen."""
        return share_from(self.spread(), self.seen())


def pouring_rows(trials):
    """A tuple (seen, share) for the pour of each beginning of a list of trials and pours."""
    # Made ahead of all rows, as what is refused of the pour of all is refused here too.
    Poured(trials)
    rows = []
    seen = 0
    parts = (1, {0: 1})
    for each in trials:
        seen += each.seen()
        parts = folded(parts, spread_parts(each.spread()))
        rows.append((seen, share_from(told_spread(parts), seen)))
    return rows


def may_stand_beside(thing):
    """Whether a thing is a trial that can become a block of another one."""
    return isinstance(thing, Trial) and may_be_block(thing.rule) and may_be_inner(thing.measure)


def are_block_trials(thing):
    """Whether a thing is a list of trials that one trial in blocks can be made of."""
    if not isinstance(thing, list) or not is_whole(len(thing), 1, MOST_RULES):
        return False
    if not all([may_stand_beside(trial) for trial in thing]):
        return False
    return all([trial.measure.word() == thing[0].measure.word() for trial in thing])


def as_blocks(trials):
    """One trial in blocks, each of them a trial of the list."""
    if not are_block_trials(trials):
        raise NoTrials(trials)
    rule = Blocks([trial.rule for trial in trials])
    outcomes = []
    dealing = 0
    for trial in trials:
        dealing += trial.dealing << len(outcomes)
        outcomes.extend(trial.outcomes)
    return Trial(rule, outcomes, Weighted(trials[0].measure, [1] * len(trials)), dealing)
