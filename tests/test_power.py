"""Points 6, 10 and 103 to 105: powers, makers of rules, and the least number of folk."""

import time
from fractions import Fraction

from gonethrough import ALL, HALF, NO_NUMBERS, NO_SHARES, NONE, SURE, UNSURE, DealCase, dealt, levels_beside, pair_of, small_rules, takes_signs, value
from trialdeal.errors import NoLevel, NoNumber, NoPairs, NoShare, NotSure, NoWeights, NoWorld, TooMany
from trialdeal.measures import Ranks, Signs, Sum, Weighted, Wins
from trialdeal.power import coins_maker, least_folk, pairs_maker, power_of, power_rows, split_maker
from trialdeal.rules import Blocks, Coins, First, Pairs, Split
from trialdeal.toldshare import told_share
from trialdeal.worlds import outcomes_under, shifted_world, spared_world, turned_world, world_of

YES = (1, True)
MAYBE = (1, False)
LONG = [((7 * at * at + 3 * at) % 41 - 20, True) for at in range(20)]


def wanted_rows(rule, world, measure):
    """A row for each dealing, by all dealings gone through for what would be seen under it."""
    shares = dealt(rule)
    rows = []
    for dealing, share in shares.items():
        outcomes = [world(at)[0 if dealing >> at & 1 else 1] for at in range(rule.folk())]
        scores = measure.scores(rule, outcomes)
        own = value(scores, dealing)
        rows.append((dealing, share, sum(part for other, part in shares.items() if value(scores, other) >= own)))
    return rows


def some_cases():
    """Tuples (rule, world, measure)."""
    cases = []
    worlds = [(shifted_world(SURE, 3), True), (spared_world(shifted_world(SURE, -4), [0, 2]), True), (world_of(list(zip(SURE, SURE[::-1]))), True), (world_of(list(zip(UNSURE, SURE))), False)]
    for rule in small_rules():
        for world, sure in worlds:
            measures = [Wins(), Weighted(Wins(), [1, 2])]
            if sure:
                measures += [Sum(), Ranks(), Weighted(Sum(), [2, 1]), Weighted(Ranks(), [0, 1])]
            if takes_signs(rule):
                measures += [Signs(), Weighted(Signs(), [1, 3])]
            cases += [(rule, world, measure) for measure in measures]
    return cases


class Powers(DealCase):
    def test_all_dealings_gone_through(self):
        for rule, world, measure in some_cases():
            wanted = wanted_rows(rule, world, measure)
            self.same(power_rows(rule, world, measure), [(dealing, pair_of(share), pair_of(told)) for dealing, share, told in wanted])
            tolds = sorted({told for dealing, share, told in wanted})
            for level in levels_beside(tolds[:2] + tolds[-2:]):
                power = sum((share for dealing, share, told in wanted if told <= level), Fraction(0))
                self.same(power_of(rule, world, measure, pair_of(level)), pair_of(power))

    def test_rows_have_the_told_share(self):
        for rule, world, measure in some_cases()[::5]:
            for dealing, share, told in power_rows(rule, world, measure):
                self.same(told, told_share(rule, outcomes_under(rule.folk(), world, dealing), measure, dealing))

    def test_by_hand(self):
        world = shifted_world([(0, True)] * 4, 1)
        self.same(power_rows(Split(4, 2), world, Sum()), [(dealing, (1, 6), (1, 6)) for dealing in (3, 5, 6, 9, 10, 12)])
        self.same(power_of(Split(4, 2), world, Sum(), (1, 6)), ALL)
        self.same(power_of(Split(4, 2), world, Sum(), (1, 7)), NONE)
        self.same(power_of(Split(4, 2), turned_world(world), Sum(), (1, 6)), NONE)
        self.same(power_of(Pairs(1, (1, 3)), world_of([((5, True), (0, True)), ((0, True), (2, True))]), Signs(), (1, 3)), (1, 3))

    def test_with_no_effect_no_more_than_the_level(self):
        for rule in small_rules():
            for level in (Fraction(0), Fraction(1, 20), Fraction(1, 3), Fraction(1)):
                self.assertLessEqual(Fraction(*power_of(rule, shifted_world(SURE, 0), Ranks(), pair_of(level))), level)

    def test_great_rules_in_good_time(self):
        began = time.process_time()
        for rule in (Split(14, 7), Coins(12, (1, 3), 20), Split(20, 4), Pairs(10, (2, 5)), Blocks([Split(5, 2), Split(5, 3), Split(5, 2), Split(5, 1)])):
            rows = power_rows(rule, shifted_world(LONG, 5), Sum())
            self.same([(dealing, share) for dealing, share, told in rows], [(dealing, pair_of(share)) for dealing, share in dealt(rule).items()])
            for dealing, share, told in rows[::len(rows) // 5]:
                self.same(told, told_share(rule, outcomes_under(rule.folk(), shifted_world(LONG, 5), dealing), Sum(), dealing))
        self.assertLess(time.process_time() - began, 60)

    def test_what_is_told_may_be_changed(self):
        world = shifted_world(SURE, 2)
        rule, measure = Split(4, 2), Sum()
        self.untouched(lambda: power_rows(rule, world, measure))
        self.untouched(lambda: power_of(rule, world, measure, HALF))


class Refused(DealCase):
    def test_no_level_first(self):
        for thing in NO_SHARES:
            self.assertIs(self.refused(NoLevel, lambda level: power_of(Split(20, 10), world_of([]), Sum(), level), thing).found, thing)

    def test_too_many_ahead_of_no_world(self):
        for rule in (Split(20, 10), Split(15, 7), Coins(13, HALF, 20), Blocks([Split(14, 4), Split(5, 1)])):
            self.same(self.refused(TooMany, lambda *things: power_of(rule, world_of([]), Sum(), HALF)).many, 5001)
            self.same(self.refused(TooMany, lambda *things: power_rows(rule, world_of([]), Sum())).many, 5001)

    def both(self, refusal, rule, world, measure):
        """The refusal of the rows, which the power has too."""
        found = vars(self.refused(refusal, lambda *things: power_rows(rule, world, measure)))
        self.same(vars(self.refused(refusal, lambda *things: power_of(rule, world, measure, HALF))), found)
        return list(found.values())[0]

    def test_no_world_ahead_of_the_measure(self):
        self.same(self.both(NoWorld, Split(4, 2), world_of([(YES, MAYBE)] * 3), Sum()), 3)
        self.same(self.both(NoWorld, Split(4, 2), shifted_world([YES, (99, True), YES, (99, True)], 1), Signs()), 1)
        self.same(self.both(NoWorld, Split(4, 2), lambda at: None, Sum()), 0)

    def test_an_outcome_that_is_seen_under_some_dealing_only(self):
        # The rule deals 3, 5, 6, 9, 10, 12; the folk 2 has hand 1 in 5 first, the folk 0 has hand 0 in 6 first.
        both = [(YES, YES)] * 4
        self.same(self.both(NotSure, Split(4, 2), world_of(both[:2] + [(MAYBE, YES)] + both[3:]), Sum()), 2)
        self.same(self.both(NotSure, Split(4, 2), world_of([(YES, MAYBE)] + both[1:2] + [(MAYBE, YES)] + both[3:]), Ranks()), 2)
        self.same(self.both(NotSure, Split(4, 2), world_of([(YES, MAYBE)] + both[1:]), Sum()), 0)
        self.same(self.both(NotSure, Split(4, 2), world_of([(YES, MAYBE), (YES, MAYBE), (MAYBE, YES), (YES, YES)]), Sum()), 1)
        self.same(self.both(NotSure, Split(4, 2), world_of([(YES, YES)] * 3 + [(YES, MAYBE)]), Sum()), 3)
        self.same(power_of(Split(2, 0), world_of([(MAYBE, YES)] * 2), Sum(), HALF), NONE)
        self.same(power_of(Split(4, 2), world_of([(MAYBE, YES)] * 4), Wins(), ALL), ALL)

    def test_pairs_and_weights(self):
        self.same(self.both(NoPairs, Split(4, 2), world_of([(YES, YES)] * 4), Signs()), 0)
        self.same(self.both(NoPairs, Blocks([Pairs(1, HALF), Split(2, 1)]), world_of([(YES, YES)] * 4), Signs()), 1)
        self.same(self.both(NoPairs, First(Pairs(2, HALF), 3), world_of([(YES, YES)] * 4), Signs()), 0)
        self.same(self.both(NoWeights, Blocks([Pairs(1, HALF), Split(2, 1)]), world_of([(MAYBE, MAYBE)] * 4), Weighted(Sum(), [7])), [7])


class Makers(DealCase):
    def test_one_to_twenty_folk(self):
        for folk in range(1, 21):
            self.same(split_maker()(folk).told(), ("split", folk, folk // 2))
            self.same(coins_maker((1, 3), 4)(folk).told(), ("coins", folk, (1, 3), 4))
            made = pairs_maker((2, 5))(folk)
            self.same(None if made is None else made.told(), None if folk % 2 else ("pairs", folk // 2, (2, 5)))

    def test_beyond_there_is_none(self):
        for folk in (0, 21, 22, -1):
            for maker in (split_maker(), pairs_maker(HALF), coins_maker(HALF, 1)):
                self.same(maker(folk), None)

    def test_refused_as_their_rules_are(self):
        coins = [thing for thing in NO_SHARES] + [NONE, ALL, (1, 101), (100, 101)]
        for thing in coins:
            self.assertIs(self.refused(NoShare, pairs_maker, thing).found, thing)
            for far in (1, 0, None):
                self.assertIs(self.refused(NoShare, coins_maker, thing, far).found, thing)
        for thing in NO_NUMBERS + [0, -1, 21]:
            self.assertIs(self.refused(NoNumber, coins_maker, HALF, thing).found, thing)
        self.same(coins_maker((99, 100), 20)(20).told(), ("coins", 20, (99, 100), 20))


class Least(DealCase):
    def wanted(self, maker, world, measure, level, share, least, most):
        for folk in range(least, most + 1):
            if maker(folk) is not None:
                power = sum((part for dealing, part, told in wanted_rows(maker(folk), world, measure) if told <= level), Fraction(0))
                if power >= share:
                    return (folk, pair_of(power))
        return None

    def test_the_first_in_its_stretch(self):
        world = shifted_world(LONG, 12)
        for maker, measure in ((split_maker(), Sum()), (split_maker(), Wins()), (pairs_maker((1, 3)), Signs()), (pairs_maker(HALF), Sum()), (coins_maker(HALF, 2), Ranks())):
            for level in (Fraction(1, 10), Fraction(1, 4)):
                powers = {folk: power_of(maker(folk), world, measure, pair_of(level)) for folk in range(1, 8) if maker(folk) is not None}
                wishes = levels_beside([Fraction(*power) for power in powers.values()])
                for wish in wishes:
                    for least, most in ((1, 7), (2, 6), (3, 3), (5, 7)):
                        told = least_folk(maker, world, measure, pair_of(level), pair_of(wish), least, most)
                        wanted = [(folk, power) for folk, power in powers.items() if least <= folk <= most and Fraction(*power) >= wish]
                        self.same(told, wanted[0] if wanted else None)
                self.same(least_folk(maker, world, measure, pair_of(level), HALF, 1, 6), self.wanted(maker, world, measure, level, Fraction(1, 2), 1, 6))

    def test_powers_need_not_rise(self):
        world = shifted_world(LONG, 12)
        powers = [Fraction(*power_of(Split(folk, folk // 2), world, Sum(), (1, 4))) for folk in range(1, 9)]
        self.assertNotEqual(powers, sorted(powers))

    def test_numbers_without_a_rule_are_passed_over(self):
        world = shifted_world([(0, True)] * 20, 5)
        self.same(least_folk(pairs_maker(HALF), world, Sum(), (1, 4), ALL, 1, 20), (4, ALL))
        self.same(least_folk(pairs_maker(HALF), world, Sum(), (1, 4), ALL, 5, 20), (6, ALL))
        self.same(least_folk(pairs_maker(HALF), world, Sum(), (1, 4), NONE, 5, 5), None)
        self.same(least_folk(lambda folk: None, world, Sum(), (1, 4), NONE, 1, 20), None)

    def test_numbers_behind_are_not_looked_at(self):
        asked = []

        def maker(folk):
            asked.append(folk)
            return Split(folk, folk // 2)

        world = shifted_world([(0, True)] * 4, 5)
        self.same(least_folk(maker, world, Sum(), (1, 6), ALL, 2, 20), (4, ALL))
        self.same(asked, [2, 3, 4])

    def test_none_where_there_is_none(self):
        world = shifted_world([(0, True)] * 20, 0)
        self.same(least_folk(split_maker(), world, Sum(), (1, 20), (1, 10 ** 20), 1, 8), None)
        self.same(least_folk(split_maker(), world, Sum(), (1, 20), NONE, 3, 8), (3, NONE))

    def test_refused_in_their_order(self):
        def call(level, wanted, least, most):
            return least_folk(lambda folk: Split(20, 10), lambda at: None, Signs(), level, wanted, least, most)

        for thing in NO_SHARES:
            self.assertIs(self.refused(NoLevel, call, thing, None, None, None).found, thing)
            self.assertIs(self.refused(NoShare, call, HALF, thing, None, None).found, thing)
        for thing in NO_NUMBERS + [0, -1, 21]:
            self.assertIs(self.refused(NoNumber, call, HALF, HALF, thing, None).found, thing)
            self.assertIs(self.refused(NoNumber, call, HALF, HALF, 1, thing).found, thing)
        self.same(self.refused(NoNumber, call, HALF, HALF, 5, 4).found, 4)
        self.same(self.refused(NoNumber, call, HALF, HALF, 20, 19).found, 19)
        self.same(self.refused(TooMany, call, HALF, HALF, 20, 20).many, 5001)

    def test_as_the_power_for_the_first_number(self):
        world = shifted_world([(0, True)] * 5, 0)
        self.same(self.refused(NoWorld, lambda *things: least_folk(split_maker(), world, Sum(), (1, 20), HALF, 1, 20)).place, 5)
        self.same(self.refused(NoWorld, lambda *things: least_folk(split_maker(), world, Sum(), (1, 20), HALF, 8, 20)).place, 5)
        self.same(self.refused(NoWorld, lambda *things: least_folk(pairs_maker(HALF), world, Sum(), (1, 20), HALF, 5, 20)).place, 5)
        self.same(least_folk(split_maker(), world, Sum(), (1, 20), HALF, 1, 5), None)
        self.same(self.refused(NoPairs, lambda *things: least_folk(coins_maker(HALF, 1), world, Signs(), (1, 20), HALF, 2, 5)).block, 0)
        sure = world_of([(YES, YES), (YES, YES), (MAYBE, MAYBE)])
        self.same(self.refused(NotSure, lambda *things: least_folk(split_maker(), sure, Sum(), (1, 20), HALF, 1, 20)).place, 2)
        self.same(self.refused(TooMany, lambda *things: least_folk(coins_maker(HALF, 20), shifted_world(LONG, 0), Sum(), NONE, HALF, 13, 20)).many, 5001)
        self.same(self.refused(TooMany, lambda *things: least_folk(split_maker(), world_of([]), Sum(), NONE, HALF, 15, 20)).many, 5001)
