"""Points 10 and 54: trials made into one trial in blocks, like the pour of them all."""

import unittest

from trialdeal.errors import DealError, NoTrials, TooMany
from trialdeal.measures import Ranks, Signs, Sum, Weighted, Wins
from trialdeal.pouring import Poured, as_blocks
from trialdeal.rules import Blocks, Coins, First, Pairs, Split
from trialdeal.trials import Trial

HALF = (1, 2)
YES = (1, True)
SURE = [(3, True), (-1, True), (3, True), (0, True), (7, True), (-1, True)]
UNSURE = [(3, False), (-1, True), (3, True), (0, False), (7, True), (7, False)]


def trials_by(measure, outcomes):
    return [
        Trial(Split(4, 2), outcomes[:4], measure, 5), Trial(Pairs(2, (1, 3)), outcomes[2:], measure, 6), Trial(Coins(3, (2, 5), 1), outcomes[1:4], measure, 2),
        Trial(Split(1, 1), outcomes[4:5], measure, 1), Trial(Pairs(1, HALF), outcomes[:2], measure, 2), Trial(Coins(5, HALF, 20), outcomes[1:], measure, 31),
    ]


def folk_trial(folk, measure=None):
    return Trial(Split(folk, 1), [YES] * folk, measure or Sum(), 1)


class BesideCase(unittest.TestCase):
    def same(self, told, wanted):
        self.assertEqual(repr(told), repr(wanted))

    def refused(self, refusal, thing):
        with self.assertRaises(DealError) as caught:
            as_blocks(thing)
        self.assertIs(type(caught.exception), refusal, repr(thing)[:100])
        return caught.exception

    def like_the_pour(self, trials):
        trial = as_blocks(trials)
        self.assertIs(type(trial), Trial)
        self.same(trial.rule.told(), Blocks([each.rule for each in trials]).told())
        outcomes, hands = (), []
        for each in trials:
            outcomes += each.outcomes
            hands += [each.dealing >> at & 1 for at in range(each.rule.folk())]
        self.same(trial.outcomes, outcomes)
        self.same(trial.measure.told(), ("weighted", trials[0].measure.told(), (1,) * len(trials)))
        self.same(trial.dealing, sum(hand << at for at, hand in enumerate(hands)))
        pour = Poured(trials)
        self.same((trial.seen(), trial.spread(), trial.share()), (pour.seen(), pour.spread(), pour.share()))


class Beside(BesideCase):
    def test_one_to_six_trials(self):
        for measure, outcomes in ((Sum(), SURE), (Ranks(), SURE), (Wins(), SURE), (Wins(), UNSURE)):
            trials = trials_by(measure, outcomes)
            for many in range(1, 7):
                self.like_the_pour(trials[:many])
                self.like_the_pour(trials[6 - many:])
            self.like_the_pour([trials[0]] * 5)
            self.like_the_pour([trials[4]] * 6)

    def test_signs(self):
        trials = [
            Trial(Pairs(1, HALF), UNSURE[:2], Signs(), 1), Trial(Pairs(2, (1, 3)), UNSURE[1:5], Signs(), 5), Trial(Pairs(3, (2, 5)), UNSURE, Signs(), 42),
            Trial(Pairs(1, (99, 100)), SURE[:2], Signs(), 2), Trial(Pairs(1, HALF), SURE[2:4], Signs(), 2), Trial(Pairs(2, HALF), SURE[:4], Signs(), 10),
        ]
        for many in range(1, 7):
            self.like_the_pour(trials[:many])

    def test_by_hand(self):
        one = Trial(Split(2, 1), [(5, True), (1, True)], Sum(), 1)
        other = Trial(Coins(2, HALF, 1), [(2, True), (0, True)], Sum(), 2)
        trial = as_blocks([one, other])
        self.same(trial.rule.told(), ("blocks", (("split", 2, 1), ("coins", 2, (1, 2), 1))))
        self.same(trial.outcomes, ((5, True), (1, True), (2, True), (0, True)))
        self.same(trial.measure.told(), ("weighted", ("sum",), (1, 1)))
        self.same(trial.dealing, 9)
        self.same((trial.seen(), trial.spread(), trial.share()), (5, {1: (1, 4), 3: (1, 4), 5: (1, 4), 7: (1, 4)}, (1, 2)))

    def test_ranks_are_those_of_each_trial_alone(self):
        one = Trial(Split(2, 1), [(50, True), (40, True)], Ranks(), 1)
        other = Trial(Split(2, 1), [(2, True), (0, True)], Ranks(), 1)
        self.same(as_blocks([one, other]).seen(), 8)

    def test_twenty_folk(self):
        self.like_the_pour([folk_trial(10), folk_trial(10)])
        self.like_the_pour([Trial(Split(20, 10), SURE * 3 + SURE[:2], Ranks(), 2 ** 20 - 2 ** 10)])
        self.like_the_pour([Trial(Pairs(5, (1, 3)), [(at, True) for at in range(10)], Sum(), 341), Trial(Coins(10, HALF, 3), UNSURE[1:2] * 10, Sum(), 341)])
        self.like_the_pour([folk_trial(19), folk_trial(1)])
        self.like_the_pour([folk_trial(4)] * 4 + [folk_trial(3), folk_trial(1)])

    def test_what_are_no_such_trials(self):
        trial, other = folk_trial(2), folk_trial(3, Wins())
        blocks = Trial(Blocks([Split(2, 1)]), [YES] * 2, Sum(), 1)
        first = Trial(First(Split(3, 1), 2), [YES] * 2, Sum(), 1)
        whole = Trial(First(Split(2, 1), 2), [YES] * 2, Sum(), 1)
        weighted = Trial(Split(2, 1), [YES] * 2, Weighted(Sum(), [1]), 1)
        ranks, signs = folk_trial(2, Ranks()), Trial(Pairs(1, HALF), [YES] * 2, Signs(), 1)
        for thing in (
            None, True, False, 0, 1, "", "trial", trial, Poured([trial]), (), (trial,), (trial, trial), {}, {0: trial}, [], [trial] * 7, [trial] * 8, [trial] * 20,
            [None], [trial, None], [None, trial], [trial, 0], [trial, True], [trial, "trial"], [[trial]], [trial, [trial]], [(trial,)], [trial, {}], [Split(2, 1)],
            [Poured([trial])], [trial, Poured([trial])], [blocks], [trial, blocks], [blocks, trial], [first], [trial, first], [whole], [trial, whole], [weighted],
            [trial, weighted], [weighted, weighted], [trial, other], [other, trial], [trial, ranks], [ranks, trial], [trial, trial, signs], [signs, trial],
            [trial, trial, trial, trial, trial, other], DealError("no"), [trial, Sum()], [None] * 1100,
        ):
            self.assertIs(self.refused(NoTrials, thing).found, thing)

    def test_more_than_twenty_folk(self):
        for trials, folk in (
            ([folk_trial(20), folk_trial(1)], 21), ([folk_trial(1), folk_trial(20)], 21), ([folk_trial(20)] * 6, 120), ([folk_trial(7)] * 3, 21),
            ([folk_trial(4)] * 4 + [folk_trial(3), folk_trial(2)], 21),
        ):
            self.same(self.refused(TooMany, trials).many, folk)

    def test_no_trials_ahead_of_too_many(self):
        for thing in ([folk_trial(20)] * 7, [folk_trial(20), folk_trial(20, Wins())], [folk_trial(20), folk_trial(20), None], (folk_trial(20), folk_trial(20))):
            self.assertIs(self.refused(NoTrials, thing).found, thing)

    def test_measures_made_alike(self):
        self.like_the_pour([folk_trial(2, Sum()), folk_trial(3, Sum())])
        self.like_the_pour([folk_trial(2, Wins()), folk_trial(3, Wins())])

    def test_handed_in_and_told(self):
        trials = trials_by(Sum(), SURE)[:3]
        things = list(trials)
        trial = as_blocks(things)
        self.assertEqual([id(each) for each in things], [id(each) for each in trials])
        kept = (trial.seen(), trial.spread(), trial.share())
        things.clear()
        trial.spread().clear()
        self.same((trial.seen(), trial.spread(), trial.share()), kept)
        again = as_blocks(trials_by(Sum(), SURE)[:3])
        self.same((again.seen(), again.spread(), again.share()), kept)


if __name__ == "__main__":
    unittest.main()
