"""Trials: a rule, what came of all folk, how it is measured, and how they were dealt."""

from trialdeal.dealings import need_dealt
from trialdeal.measures import value_of
from trialdeal.tables import share_from, spread_of


class Trial:
    """One trial; its points are the scores of its folk."""

    def __init__(self, rule, outcomes, measure, dealing):
        points = measure.scores(rule, outcomes)
        need_dealt(rule, dealing)
        self.rule = rule
        self.outcomes = tuple(outcomes)
        self.measure = measure
        self.dealing = dealing
        self.points = tuple(points)

    def seen(self):
        """The value of its dealing."""
        return value_of(list(self.points), self.dealing)

    def spread(self):
        """The spread of the values of all dealings of its rule."""
        return spread_of(self.rule, list(self.points))

    def share(self):
        """The told share of its dealing."""
        return share_from(self.spread(), self.seen())
