"""Points 6, 8, 10, 52, 53 and 55: spreads folded, trials poured together, and how the share comes about."""

import unittest
from fractions import Fraction
from itertools import permutations, product

from trialdeal.errors import DealError, NoTrials, TooMany
from trialdeal.measures import Ranks, Signs, Sum, Weighted, Wins
from trialdeal.pouring import Poured, poured_spread, pouring_rows
from trialdeal.rules import Blocks, Coins, First, Pairs, Split
from trialdeal.trials import Trial

HALF = (1, 2)
YES = (1, True)
WIDE = [(number, True) for number in (1, 2, 4, 8, 16, 32, 64, 99, 97, 89, 83, 79, 73, 61, 1, 7, 31, 43, 3, 5)]


def pair_of(fraction):
    return (fraction.numerator, fraction.denominator)


def even(values):
    values = list(values)
    return {value: pair_of(Fraction(1, len(values))) for value in values}


def wanted_fold(spreads):
    sums = {0: Fraction(1)}
    for spread in spreads:
        behind = {}
        for (value, share), (more, part) in product(sums.items(), spread.items()):
            behind[value + more] = behind.get(value + more, 0) + share * Fraction(*part)
        sums = behind
    return {value: pair_of(sums[value]) for value in sorted(sums)}


def wanted_share(spread, seen):
    return pair_of(sum((Fraction(*share) for value, share in spread.items() if value >= seen), Fraction(0)))


def some_trials():
    return [
        Trial(Split(4, 2), [(4, True), (1, True), (3, True), (0, True)], Sum(), 3),
        Trial(Pairs(2, (1, 3)), [(4, False), (1, True), (3, True), (9, True)], Signs(), 5),
        Trial(Coins(3, (2, 5), 1), [(4, False), (1, True), (3, True)], Wins(), 2),
        Trial(Blocks([Split(2, 1), Coins(1, HALF, 1)]), [(-4, True), (1, True), (1, True)], Weighted(Ranks(), [2, 3]), 2),
        Trial(First(Split(6, 3), 4), [(-9, True), (1, True), (3, True), (0, True)], Ranks(), 7),
        Trial(First(Split(6, 3), 0), [], Wins(), 0),
    ]


def many_folk(folk, dealing=1):
    return Trial(Split(folk, 1), [YES] * folk, Sum(), dealing)


def wide_trial():
    """Its table is too great."""
    return Trial(Blocks([Split(14, 6), Split(6, 3)]), WIDE, Weighted(Sum(), [20, 1]), 63 + (7 << 14))


class PourCase(unittest.TestCase):
    def same(self, told, wanted):
        self.assertEqual(repr(told), repr(wanted))

    def refused(self, refusal, call, *things):
        with self.assertRaises(DealError) as caught:
            call(*things)
        self.assertIs(type(caught.exception), refusal, repr(things)[:100])
        return caught.exception


class Folded(PourCase):
    def test_by_hand(self):
        self.same(poured_spread({0: (1, 2), 1: (1, 2)}, {0: (1, 3), 2: (2, 3)}), {0: (1, 6), 1: (1, 6), 2: (1, 3), 3: (1, 3)})
        self.same(poured_spread({-1: (1, 4), 1: (3, 4)}, {-1: (1, 2), 1: (1, 2)}), {-2: (1, 8), 0: (1, 2), 2: (3, 8)})
        unlike = {0: (1, 4), 1: (1, 4), 2: (2, 5), 3: (1, 10)}
        self.same(poured_spread(unlike, {0: (1, 1)}), unlike)
        self.same(poured_spread(unlike, unlike), wanted_fold([unlike, unlike]))
        self.same(poured_spread({0: (1, 1)}, {0: (1, 1)}), {0: (1, 1)})
        self.same(poured_spread({7: (1, 1)}, {-9: (1, 5), 4: (4, 5)}), {-2: (1, 5), 11: (4, 5)})

    def test_spreads_of_trials(self):
        spreads = [trial.spread() for trial in some_trials()]
        for one, other in product(spreads, repeat=2):
            self.same(poured_spread(one, other), wanted_fold([one, other]))
        for one, other, third in product(spreads, repeat=3):
            self.same(poured_spread(poured_spread(one, other), third), wanted_fold([one, other, third]))

    def test_values_that_meet(self):
        self.same(poured_spread(even(range(100)), even(range(100))), wanted_fold([even(range(100))] * 2))
        self.same(poured_spread(even([-7, 0, 7]), even([-7, 0, 7])), {-14: (1, 9), -7: (2, 9), 0: (1, 3), 7: (2, 9), 14: (1, 9)})

    def test_great_numbers(self):
        one = {0: (1, 10 ** 400), 10 ** 20: (10 ** 400 - 1, 10 ** 400)}
        other = {-10 ** 20: (1, 7 ** 300), 0: (7 ** 300 - 1, 7 ** 300)}
        self.same(poured_spread(one, other), wanted_fold([one, other]))

    def test_just_five_thousand_and_more(self):
        spread = poured_spread(even([0, 1]), even(range(4999)))
        self.assertEqual(list(spread), list(range(5000)))
        self.assertEqual(sum(Fraction(*share) for share in spread.values()), 1)
        self.assertEqual(len(poured_spread(even(range(0, 2500, 50)), even(range(2550)))), 5000)
        self.assertEqual(len(poured_spread(even(range(5000)), even([3]))), 5000)
        self.assertEqual(len(poured_spread(even([3]), even(range(5000)))), 5000)
        for one, other in (
            (even([0, 1]), even(range(5000))), (even(range(5000)), even([0, 1])), (even(range(0, 10000, 2)), even([0, 1])), (even(range(5000)), even(range(5000))),
            (even([0, 1]), even(range(0, 5002, 2))), (even(range(72)), even(range(0, 7200, 100))),
            (even(range(0, 2500, 50)), even(range(2551))),
        ):
            self.same(self.refused(TooMany, poured_spread, one, other).many, 5001)
        self.assertEqual(len(poured_spread(even([0, 1]), even(range(0, 5000, 2)))), 5000)

    def test_handed_in_and_told(self):
        one, other = {1: (1, 2), 2: (1, 2)}, {0: (1, 3), 4: (2, 3)}
        told = poured_spread(one, other)
        kept = dict(told)
        self.same((one, other), ({1: (1, 2), 2: (1, 2)}, {0: (1, 3), 4: (2, 3)}))
        told.clear()
        self.same(poured_spread(one, other), kept)
        self.same(poured_spread(other, one), kept)


class Pours(PourCase):
    def like_all(self, pour, trials):
        spread = wanted_fold([trial.spread() for trial in trials])
        seen = sum(trial.seen() for trial in trials)
        self.assertIs(type(pour.trials), tuple)
        self.assertEqual([id(trial) for trial in pour.trials], [id(trial) for trial in trials])
        self.same(pour.seen(), seen)
        self.same(pour.spread(), spread)
        self.same(pour.share(), wanted_share(spread, seen))

    def test_one_trial(self):
        for trial in some_trials() + [many_folk(20)]:
            pour = Poured([trial])
            self.like_all(pour, [trial])
            self.same((pour.seen(), pour.spread(), pour.share()), (trial.seen(), trial.spread(), trial.share()))

    def test_several_trials(self):
        trials = some_trials()
        for many in range(2, 7):
            self.like_all(Poured(trials[:many]), trials[:many])
        self.like_all(Poured([trials[0]] * 3), [trials[0]] * 3)

    def test_several_orders(self):
        trials = some_trials()[:4]
        whole = Poured(trials)
        for order in permutations(trials):
            pour = Poured(list(order))
            self.like_all(pour, list(order))
            self.same((pour.seen(), pour.spread(), pour.share()), (whole.seen(), whole.spread(), whole.share()))

    def test_several_groupings(self):
        one, other, third, fourth = some_trials()[:4]
        whole = [one, other, third, fourth]
        for pour in (
            Poured([Poured([one, other]), third, fourth]), Poured([one, Poured([other, third]), fourth]), Poured([one, other, Poured([third, fourth])]),
            Poured([Poured([one, other]), Poured([third, fourth])]), Poured([Poured(whole)]), Poured([Poured([Poured([one]), other]), Poured([third, Poured([fourth])])]),
            Poured([Poured([one]), Poured([other]), Poured([third]), Poured([fourth])]), Poured([one, Poured([other, Poured([third, Poured([fourth])])])]),
        ):
            self.like_all(pour, whole)

    def test_a_pour_twice(self):
        one, other = some_trials()[:2]
        inner = Poured([one, other])
        self.like_all(Poured([inner, one, inner]), [one, other, one, one, other])

    def test_twenty_things_and_sixty_folk(self):
        trials = [Trial(Coins(3, (1, 3), 2), [(at, True), (1, True), (-at, True)], Sum(), 1 + at % 6) for at in range(20)]
        self.like_all(Poured(trials), trials)
        pour = Poured([many_folk(20), many_folk(20, 2), many_folk(20, 4)])
        self.same((pour.seen(), pour.spread(), pour.share()), (3, {3: (1, 1)}, (1, 1)))
        ones = [many_folk(1) for at in range(60)]
        pour = Poured([Poured(ones[:20]), Poured(ones[20:40]), Poured(ones[40:])])
        self.same((len(pour.trials), pour.seen(), pour.share()), (60, 60, (1, 1)))

    def test_more_than_twenty_trials_without_folk(self):
        none = Trial(First(Split(2, 1), 0), [], Sum(), 0)
        inner = Poured([none] * 20)
        pour = Poured([inner] * 20)
        self.same((len(pour.trials), pour.seen(), pour.spread(), pour.share()), (400, 0, {0: (1, 1)}, (1, 1)))

    def test_what_are_no_trials(self):
        trial = many_folk(2)
        for thing in (
            None, True, False, 0, 1, "", "trial", trial, Poured([trial]), (), (trial,), (trial, trial), {}, {0: trial}, [], [trial] * 21, [trial] * 22, [Poured([trial])] * 21,
            [None], [trial, None], [None, trial], [trial, 0], [trial, True], [trial, "trial"], [[trial]], [trial, [trial]], [(trial,)], [trial, {}], [Split(2, 1)],
            [trial, Sum()], [trial] * 19 + [Sum()], [trial.spread()], [YES], DealError("no"), [None] * 1100, [many_folk(20)] * 21, [many_folk(20)] * 4 + [None],
        ):
            for call in (Poured, pouring_rows):
                self.assertIs(self.refused(NoTrials, call, thing).found, thing)

    def test_more_than_sixty_folk(self):
        for things, folk in (
            ([many_folk(20)] * 3 + [many_folk(1)], 61), ([many_folk(20)] * 4, 80), ([many_folk(20)] * 20, 400), ([Poured([many_folk(20)] * 3), many_folk(1)], 61),
            ([many_folk(2), Poured([many_folk(19)] * 3), many_folk(2)], 61), ([Poured([many_folk(20)] * 3)] * 20, 1200), ([many_folk(4)] * 14 + [many_folk(5)], 61),
            ([wide_trial()] * 4, 80),
        ):
            for call in (Poured, pouring_rows):
                self.same(self.refused(TooMany, call, things).many, folk)

    def test_spreads_that_are_too_great(self):
        for trials in ([wide_trial()], [wide_trial(), many_folk(2)], [many_folk(2), wide_trial()], [Poured([many_folk(2), wide_trial()]), many_folk(2)], self.great_ones()):
            pour = Poured(trials)
            self.same(pour.seen(), sum(thing.seen() for thing in trials))
            for again in range(2):
                self.same(self.refused(TooMany, pour.spread).many, 5001)
                self.same(self.refused(TooMany, pour.share).many, 5001)
            self.same(self.refused(TooMany, pouring_rows, trials).many, 5001)

    def great_ones(self):
        """None of their spreads is too great, but that of all is."""
        one = Trial(Split(20, 1), [(at, True) for at in range(0, 80, 4)], Sum(), 1)
        wide = Trial(Pairs(7, HALF), [(at, True) for at in (99, 0, 77, 0, 61, 0, 43, 0, 29, 0, 13, 0, 1, 0)], Weighted(Sum(), [17]), 5461)
        more = Trial(Pairs(7, HALF), [(at, True) for at in (98, 0, 75, 0, 57, 0, 41, 0, 23, 0, 11, 0, 2, 0)], Weighted(Sum(), [19]), 5461)
        for trials in ([one], [wide], [more], [one, wide], [one, more]):
            self.assertTrue(Poured(trials).spread())
        return [wide, more, one]

    def test_a_list_that_is_changed(self):
        trials = some_trials()[:3]
        things = list(trials)
        pour = Poured(things)
        things.append(None)
        things[0] = many_folk(3)
        self.like_all(pour, trials)

    def test_handed_in_and_told(self):
        trials = some_trials()[:3]
        pour = Poured(trials)
        kept = dict(pour.spread())
        pour.spread().clear()
        self.same(pour.spread(), kept)
        self.assertEqual(len(trials), 3)
        self.same(Poured(some_trials()[:3]).spread(), kept)


class Rows(PourCase):
    def wanted_rows(self, things):
        rows = []
        for many in range(1, len(things) + 1):
            pour = Poured(things[:many])
            rows.append((pour.seen(), pour.share()))
        return rows

    def test_each_beginning(self):
        trials = some_trials()
        inner = Poured(trials[1:3])
        for things in (
            trials[:1], trials[:2], trials[:3], trials, [inner], [inner, trials[0]], [trials[0], inner, trials[3]], [inner, inner], [Poured([inner, trials[0]]), trials[0]],
        ):
            rows = pouring_rows(things)
            self.assertIs(type(rows), list)
            self.same(rows, self.wanted_rows(things))
            whole = Poured(things)
            self.same(rows[-1], (whole.seen(), whole.share()))
            self.same(rows[0], (things[0].seen(), things[0].share()))

    def test_twenty_things(self):
        things = [Trial(Coins(3, HALF, 2), [(at, True), (1, True), (-at, True)], Sum(), 1 + at % 6) for at in range(20)]
        rows = pouring_rows(things)
        self.assertEqual(len(rows), 20)
        self.same(rows, self.wanted_rows(things))

    def test_by_hand(self):
        one = Trial(Split(2, 1), [(1, True), (0, True)], Sum(), 1)
        other = Trial(Split(2, 1), [(1, True), (0, True)], Sum(), 2)
        self.same(pouring_rows([one, one, other]), [(1, (1, 2)), (2, (1, 4)), (2, (1, 2))])

    def test_handed_in_and_told(self):
        trials = some_trials()[:3]
        things = list(trials)
        rows = pouring_rows(things)
        kept = list(rows)
        rows.clear()
        self.assertEqual([id(thing) for thing in things], [id(trial) for trial in trials])
        self.same(pouring_rows(things), kept)
        self.same(pouring_rows(some_trials()[:3]), kept)


if __name__ == "__main__":
    unittest.main()
