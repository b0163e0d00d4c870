"""Measures: the scores that folk have by what came of all of them, and the value of a dealing by these."""

from trialdeal.dealings import hand_of, need_hands
from trialdeal.errors import NoPairs, NotSure, NoTrials, NoWeights
from trialdeal.outcomes import need_outcomes_of, stands_to
from trialdeal.words import is_whole

MOST_WEIGHTS = 6
MOST_WEIGHT = 20


def need_sure(outcomes):
    """Refuse outcomes one of which is not sure."""
    for place, outcome in enumerate(outcomes):
        if not outcome[1]:
            raise NotSure(place)


def block_marks(rule):
    """What the rule of each block is told by, also of the blocks that the first folk of a rule leave out."""
    mark = rule.told()
    while mark[0] == "first":
        mark = mark[1]
    return mark[1] if mark[0] == "blocks" else (mark,)


def need_pairs(rule):
    """Refuse a rule one of whose blocks is not the folk of whole pairs."""
    for number, (block, mark) in enumerate(zip(rule.blocks(), block_marks(rule))):
        if mark[0] != "pairs" or len(block) % 2 == 1:
            raise NoPairs(number)


class Measure:
    """What all measures have in common; each measure of its own scores outcomes."""

    def __init__(self, mark):
        self.mark = mark

    def word(self):
        """The word of the measure."""
        return self.mark[0]

    def told(self):
        """The tuple that the measure is told by."""
        return self.mark

    def scores(self, rule, outcomes):
        """The scores of all folk of a rule, a list."""
        need_outcomes_of(outcomes, rule.folk())
        self.need_fit(rule, outcomes)
        return self.scored(rule, outcomes)

    def need_fit(self, rule, outcomes):
        """Refuse a rule and outcomes that this measure has no scores for."""
        pass

    def scored(self, rule, outcomes):
        """The scores of all folk of a rule, where nothing is refused."""
        return self.among(outcomes)

    def among(self, outcomes):
        """The scores of folk that have these outcomes, as if there were no others."""
        raise NotImplementedError("each measure of its own scores outcomes")


class Sum(Measure):
    """Each folk's score is the number of the outcome."""

    def __init__(self):
        Measure.__init__(self, ("sum",))

    def need_fit(self, rule, outcomes):
        """All have to be sure."""
        need_sure(outcomes)

    def among(self, outcomes):
        """The numbers themselves."""
        return [number for number, sure in outcomes]


class Ranks(Measure):
    """Each folk's score is twice the middle of the places that those alike have."""

    def __init__(self):
        Measure.__init__(self, ("ranks",))

    def need_fit(self, rule, outcomes):
        """All have to be sure."""
        need_sure(outcomes)

    def among(self, outcomes):
        """Twice the middle is the first and the last place of those alike together."""
        numbers = sorted([number for number, sure in outcomes])
        firsts = {number: numbers.index(number) + 1 for number in numbers}
        return [2 * firsts[number] + numbers.count(number) - 1 for number, sure in outcomes]


class Wins(Measure):
    """Each folk's score is how many it surely outdoes, less how many surely outdo it."""

    def __init__(self):
        Measure.__init__(self, ("wins",))

    def among(self, outcomes):
        """As each stands to all, itself with them, to which it stands by 0."""
        return [sum([stands_to(one, other) for other in outcomes]) for one in outcomes]


class Signs(Measure):
    """Each folk's score is how it stands to the other one of its pair."""

    def __init__(self):
        Measure.__init__(self, ("signs",))

    def need_fit(self, rule, outcomes):
        """All blocks have to be whole pairs."""
        need_pairs(rule)

    def among(self, outcomes):
        """Whole pairs being all, the other one of a pair has the number with the last bit turned."""
        return [stands_to(one, outcomes[at ^ 1]) for at, one in enumerate(outcomes)]


def may_be_inner(thing):
    """Whether a thing is a measure that may be weighted."""
    return isinstance(thing, (Sum, Ranks, Wins, Signs))


def are_weights(thing):
    """Whether a thing is a list of weights."""
    if not isinstance(thing, list) or not is_whole(len(thing), 1, MOST_WEIGHTS):
        return False
    return all([is_whole(weight, 0, MOST_WEIGHT) for weight in thing])


class Weighted(Measure):
    """Each block by itself, its scores times its weight."""

    def __init__(self, inner, weights):
        if not may_be_inner(inner):
            raise NoTrials(inner)
        if not are_weights(weights):
            raise NoWeights(weights)
        self.inner = inner
        self.weights = tuple(weights)
        Measure.__init__(self, ("weighted", inner.told(), self.weights))

    def need_fit(self, rule, outcomes):
        """Each block has to have a weight; then as the inner one refuses."""
        if len(rule.blocks()) > len(self.weights):
            raise NoWeights(list(self.weights))
        # What an inner one refuses of a block it refuses of all blocks at once, too, the first one told.
        self.inner.need_fit(rule, outcomes)

    def scored(self, rule, outcomes):
        """Blocks hold the folk in order, so their scores stand one behind the other."""
        scores = []
        for block, weight in zip(rule.blocks(), self.weights):
            among = self.inner.among([outcomes[at] for at in block])
            scores.extend([weight * score for score in among])
        return scores


def value_of(scores, dealing):
    """The sum of the scores of all folk that have hand 1."""
    need_hands(dealing, len(scores))
    return sum([score for at, score in enumerate(scores) if hand_of(dealing, at) == 1])
