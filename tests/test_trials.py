"""Points 6, 9 and 51: what a trial is made of, what it tells, and what it refuses."""

import unittest
from fractions import Fraction
from math import comb

from trialdeal.dealings import all_dealings
from trialdeal.errors import DealError, NoDealing, NoFolk, NoOutcome, NoPairs, NotSure, NoWeights, TooMany
from trialdeal.measures import Ranks, Signs, Sum, Weighted, Wins, value_of
from trialdeal.rules import Blocks, Coins, First, Pairs, Split
from trialdeal.toldshare import told_share
from trialdeal.trials import Trial

HALF = (1, 2)
YES = (1, True)
MAYBE = (1, False)
NO_DEALINGS = [True, False, None, "", "0", "5", "0101", [], [5], (), (5,), (1, 2), {}, {5: 5}, Split(2, 1), Sum(), -1, 10 ** 30 - 1, 1 - 10 ** 30]
# With these the table of a split of the first 14 and one of the others is too great.
WIDE = [(number, True) for number in (1, 2, 4, 8, 16, 32, 64, 99, 97, 89, 83, 79, 73, 61, 1, 7, 31, 43, 3, 5)]


def pair_of(fraction):
    return (fraction.numerator, fraction.denominator)


class TrialCase(unittest.TestCase):
    def same(self, told, wanted):
        self.assertEqual(repr(told), repr(wanted))

    def refused(self, refusal, call, *things):
        with self.assertRaises(DealError) as caught:
            call(*things)
        self.assertIs(type(caught.exception), refusal, repr(things)[:100])
        return caught.exception


class Told(TrialCase):
    def cases(self):
        sure = [(3, True), (-1, True), (3, True), (0, True), (7, True), (-1, True)]
        unsure = [(3, False), (-1, True), (3, True), (0, False), (7, True), (7, False)]
        cases = []
        for rule in (
            Split(4, 2), Split(6, 1), Coins(5, (1, 3), 2), Pairs(2, (1, 3)), Blocks([Split(3, 1), Pairs(1, HALF)]), First(Split(6, 3), 4), First(Split(3, 1), 0),
            First(Blocks([Split(3, 1), Coins(4, HALF, 1)]), 5), Split(1, 1), Split(1, 0),
        ):
            folk = rule.folk()
            for measure in (Sum(), Ranks(), Weighted(Sum(), [2, 3]), Weighted(Ranks(), [0, 1])):
                cases.append((rule, sure[:folk], measure))
            for measure in (Wins(), Weighted(Wins(), [2, 3])):
                cases.append((rule, unsure[:folk], measure))
        cases += [(Pairs(3, (1, 3)), unsure, Signs()), (Blocks([Pairs(1, HALF), Pairs(2, (1, 3))]), unsure, Weighted(Signs(), [2, 1]))]
        return cases

    def test_all_dealings_of_small_rules(self):
        for rule, outcomes, measure in self.cases():
            scores = measure.scores(rule, outcomes)
            values = {}
            for dealing, share in all_dealings(rule):
                value = value_of(scores, dealing)
                values[value] = values.get(value, 0) + Fraction(*share)
            wanted = {value: pair_of(values[value]) for value in sorted(values)}
            for dealing, share in all_dealings(rule):
                trial = Trial(rule, outcomes, measure, dealing)
                self.assertIs(trial.rule, rule)
                self.same(trial.outcomes, tuple(outcomes))
                self.assertIs(trial.measure, measure)
                self.same(trial.dealing, dealing)
                seen = value_of(scores, dealing)
                self.same(trial.seen(), seen)
                self.same(trial.spread(), wanted)
                self.same(trial.share(), pair_of(sum(values[value] for value in values if value >= seen)))
                self.same(trial.share(), told_share(rule, outcomes, measure, dealing))

    def test_by_hand(self):
        trial = Trial(Split(4, 2), [(4, True), (1, True), (3, True), (0, True)], Sum(), 3)
        self.same(trial.seen(), 5)
        self.same(trial.spread(), {1: (1, 6), 3: (1, 6), 4: (1, 3), 5: (1, 6), 7: (1, 6)})
        self.same(trial.share(), (1, 3))

    def test_twenty_folk(self):
        outcomes = [(1, True)] * 10 + [(0, True)] * 10
        trial = Trial(Split(20, 10), outcomes, Sum(), 2 ** 10 - 1)
        self.same(trial.seen(), 10)
        self.same(trial.spread(), {ones: pair_of(Fraction(comb(10, ones) ** 2, comb(20, 10))) for ones in range(11)})
        self.same(trial.share(), (1, 184756))
        trial = Trial(Pairs(10, (1, 100)), [(1, True), (0, True)] * 10, Signs(), int("01" * 10, 2))
        self.same(trial.seen(), 10)
        self.same(trial.share(), (1, 100 ** 10))
        trial = Trial(Coins(20, HALF, 20), [(0, False)] * 20, Wins(), 5)
        self.same((trial.seen(), trial.spread(), trial.share()), (0, {0: (1, 1)}, (1, 1)))

    def test_no_folk(self):
        trial = Trial(First(Split(3, 1), 0), [], Sum(), 0)
        self.same((trial.outcomes, trial.seen(), trial.spread(), trial.share()), ((), 0, {0: (1, 1)}, (1, 1)))


class HandedInAndTold(TrialCase):
    def test_a_list_that_is_changed(self):
        outcomes = [(4, True), (1, True), (3, True), (0, True)]
        weights = [2]
        trial = Trial(Split(4, 2), outcomes, Weighted(Sum(), weights), 3)
        outcomes[0] = (99, True)
        outcomes.append(None)
        weights[0] = 20
        self.same(trial.outcomes, ((4, True), (1, True), (3, True), (0, True)))
        self.same(trial.seen(), 10)
        self.same(trial.share(), (1, 3))

    def test_what_is_handed_in_stays(self):
        outcomes = [(4, True), (1, True), (3, True), (0, True)]
        trial = Trial(Split(4, 2), outcomes, Sum(), 3)
        trial.spread()
        trial.share()
        self.same(outcomes, [(4, True), (1, True), (3, True), (0, True)])

    def test_a_spread_that_is_changed(self):
        trial = Trial(Split(2, 1), [(4, True), (1, True)], Sum(), 1)
        spread = trial.spread()
        spread.clear()
        self.same(trial.spread(), {1: (1, 2), 4: (1, 2)})
        self.same(trial.share(), (1, 2))
        again = Trial(Split(2, 1), [(4, True), (1, True)], Sum(), 1)
        self.same((again.seen(), again.spread(), again.share()), (trial.seen(), trial.spread(), trial.share()))


class Refused(TrialCase):
    def test_what_is_no_dealing_of_the_rule(self):
        for rule, never in (
            (Split(4, 2), [0, 1, 7, 15, 8, 16, 17]), (Pairs(2, HALF), [0, 3, 15, 12, 16]), (Coins(3, HALF, 1), [0, 3, 4, 7, 8]),
            (Blocks([Split(2, 2), Split(2, 0)]), [0, 1, 2, 4, 12, 15, 16]), (First(Split(4, 1), 3), [3, 5, 6, 7, 8]), (First(Split(4, 1), 0), [1]),
            (Split(20, 10), [0, 1, 2 ** 20, 2 ** 20 - 1]),
        ):
            for thing in NO_DEALINGS + never:
                self.assertIs(self.refused(NoDealing, Trial, rule, [YES] * rule.folk(), Sum(), thing).found, thing)

    def test_as_the_measure_refuses_ahead_of_the_dealing(self):
        rule = Split(4, 2)
        for dealing in (5, 0, None, True, 99):
            for thing in (None, True, 4, "", (YES,) * 4, {0: YES}, rule):
                self.assertIs(self.refused(NoFolk, Trial, rule, thing, Sum(), dealing).found, thing)
            self.same(self.refused(NoOutcome, Trial, rule, [YES, (1, 1), YES, None], Sum(), dealing).place, 1)
            self.same(self.refused(NoFolk, Trial, rule, [YES] * 5, Sum(), dealing).found, 5)
            self.same(self.refused(NoFolk, Trial, rule, [YES] * 3, Wins(), dealing).found, 3)
            self.same(self.refused(NotSure, Trial, rule, [YES, YES, MAYBE, MAYBE], Ranks(), dealing).place, 2)
            self.same(self.refused(NoPairs, Trial, Blocks([Pairs(1, HALF), rule]), [YES] * 6, Signs(), dealing).block, 1)
            self.same(self.refused(NoWeights, Trial, Blocks([rule, rule]), [YES] * 8, Weighted(Sum(), [3]), dealing).found, [3])

    def test_a_table_that_is_too_great(self):
        trial = Trial(Blocks([Split(14, 6), Split(6, 3)]), WIDE, Weighted(Sum(), [20, 1]), 63 + (7 << 14))
        self.same(trial.seen(), 20 * 63 + 39)
        for again in range(2):
            self.same(self.refused(TooMany, trial.spread).many, 5001)
            self.same(self.refused(TooMany, trial.share).many, 5001)
        self.same(trial.outcomes, tuple(WIDE))


if __name__ == "__main__":
    unittest.main()
