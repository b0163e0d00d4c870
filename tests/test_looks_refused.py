"""Points 7, 61, 64 and 65: what is refused of looks, in its order, and spendings."""

from fractions import Fraction

from gonethrough import ALL, BIG, HALF, NO_NUMBERS, NO_SHARES, NONE, SURE, UNSURE, DealCase, pair_of
from trialdeal.errors import NoFolk, NoLevel, NoLooks, NoNumber, NoOutcome, NoPairs, NotSure, NoWeights, TooMany
from trialdeal.looks import Even, Last, Late, Looks, Spending, shows_bounds, spent_by
from trialdeal.measures import Ranks, Signs, Sum, Weighted, Wins
from trialdeal.rules import Blocks, Coins, First, Pairs, Split

YES = (1, True)
MAYBE = (1, False)


def shown(rule, outcomes, measure, numbers, levels):
    return shows_bounds(rule, outcomes, measure, numbers, levels, None)


class Refused(DealCase):
    def all_refuse(self, refusal, field, wanted, rule, outcomes, measure, numbers, limits, calls=(Looks, shown, spent_by)):
        for call in calls:
            found = getattr(self.refused(refusal, call, rule, outcomes, measure, numbers, limits), field)
            if isinstance(wanted, (list, tuple, dict)):
                self.assertIs(found, wanted)
            else:
                self.same(found, wanted)

    def test_more_than_twelve_folk(self):
        for rule in (Split(13, 6), Split(20, 10), Coins(13, HALF, 1), Pairs(7, HALF), Blocks([Split(7, 1), Split(6, 1)]), First(Split(20, 1), 13)):
            for outcomes in (None, [], [None], [YES] * 12, [YES] * rule.folk()):
                self.all_refuse(TooMany, "many", rule.folk(), rule, outcomes, Sum(), None, None)
        for rule in (Split(12, 6), First(Split(20, 1), 12), Pairs(6, HALF)):
            self.assertEqual(len(Looks(rule, [YES] * 12, Sum(), [12], [HALF]).bounds()), 1)

    def test_outcomes_come_next(self):
        rule = Split(4, 2)
        for thing in (None, (), (YES,) * 4, {}, "1", 4, True):
            for call in (Looks, shown, spent_by):
                self.assertIs(self.refused(NoFolk, call, rule, thing, Sum(), None, None).found, thing)
        for outcomes, place in (([None], 0), ([YES, (1, 1), YES, None], 1), ([YES, YES, YES, (100, True)], 3), ([YES] * 5 + [[1, True]], 5)):
            self.all_refuse(NoOutcome, "place", place, rule, outcomes, Sum(), None, None)
        for many in (0, 1, 3, 5, 12):
            self.all_refuse(NoFolk, "found", many, rule, [YES] * many, Sum(), None, None)

    def test_what_are_no_lists(self):
        good = [1, 2]
        levels = [HALF, HALF]
        for thing in (None, True, 0, 2, "", "12", (), (1, 2), {}, {0: 1, 1: 2}, Split(2, 1), [], [1], [1, 2, 3], [1] * 7, list(range(1, 8))):
            self.all_refuse(NoLooks, "look", None, Split(4, 2), [MAYBE] * 4, Sum(), thing, levels)
        for thing in (None, True, 0, 2, "", "12", (), (HALF, HALF), {}, {0: HALF, 1: HALF}, Split(2, 1), [], [HALF], [HALF] * 3, [None] * 3):
            self.all_refuse(NoLooks, "look", None, Split(4, 2), [MAYBE] * 4, Sum(), good, thing)
        self.all_refuse(NoLooks, "look", None, Split(8, 2), [YES] * 8, Sum(), [], [])
        self.all_refuse(NoLooks, "look", None, Split(8, 2), [YES] * 8, Sum(), [1, 2, 3, 4, 5, 6, 7], [ALL] * 7)
        self.all_refuse(NoLooks, "look", None, Split(8, 2), [YES] * 8, Sum(), [1, 2, 3, 4, 5, 6, 7], [None] * 7)
        self.all_refuse(NoLooks, "look", None, Split(8, 2), [YES] * 8, Sum(), [True], [HALF, None])

    def test_six_looks(self):
        self.assertEqual(len(Looks(Split(8, 2), [YES] * 8, Sum(), [1, 2, 3, 4, 5, 6], [HALF] * 6).bounds()), 6)
        self.assertEqual(len(spent_by(Split(8, 2), [YES] * 8, Sum(), [3, 4, 5, 6, 7, 8], [None] * 6)), 6)

    def test_a_number_that_is_amiss(self):
        rule, outcomes = Split(4, 2), [MAYBE] * 4
        for thing in NO_NUMBERS + [0, -1, 5, 6]:
            for call, limit in ((Looks, HALF), (shown, HALF), (spent_by, None)):
                self.same(self.refused(NoLooks, call, rule, outcomes, Sum(), [thing], [limit]).look, 0)
                self.same(self.refused(NoLooks, call, rule, outcomes, Sum(), [1, thing, 4], [limit] * 3).look, 1)
                self.same(self.refused(NoLooks, call, rule, outcomes, Sum(), [1, 2, thing], [limit] * 3).look, 2)
                self.same(self.refused(NoLooks, call, rule, outcomes, Sum(), [thing, thing], [limit] * 2).look, 0)
        for numbers, look in (([1, 1], 1), ([2, 1], 1), ([1, 2, 2], 2), ([1, 3, 2], 2), ([4, 4], 1), ([4, 5], 1), ([0, 1], 0), ([3, 4, 5, 6], 2), ([1, 2, 3, 4, 5], 4)):
            for call, limit in ((Looks, HALF), (shown, HALF), (spent_by, 0)):
                self.same(self.refused(NoLooks, call, rule, outcomes, Sum(), numbers, [limit] * len(numbers)).look, look)

    def test_a_level_that_is_amiss(self):
        rule, outcomes = Split(4, 2), [MAYBE] * 4
        for thing in NO_SHARES:
            for call in (Looks, shown):
                self.same(self.refused(NoLooks, call, rule, outcomes, Sum(), [1, 2], [thing, HALF]).look, 0)
                self.same(self.refused(NoLooks, call, rule, outcomes, Sum(), [1, 2], [NONE, thing]).look, 1)
        for levels, look in (([HALF, (49, 100)], 1), ([ALL, NONE], 1), ([(1, 10 ** 30), (1, 10 ** 30 + 1)], 1), ([NONE, HALF, (1, 3)], 2), ([NONE, HALF, HALF, (1, 3)], 3)):
            for call in (Looks, shown):
                self.same(self.refused(NoLooks, call, rule, outcomes, Sum(), [1, 2, 3, 4][:len(levels)], levels).look, look)

    def test_a_bound_that_is_amiss(self):
        rule, outcomes = Split(4, 2), [MAYBE] * 4
        for thing in NO_SHARES:
            if thing is not None and (isinstance(thing, bool) or not isinstance(thing, int)):
                self.same(self.refused(NoLooks, spent_by, rule, outcomes, Sum(), [1, 2], [thing, 0]).look, 0)
                self.same(self.refused(NoLooks, spent_by, rule, outcomes, Sum(), [1, 2], [None, thing]).look, 1)
        self.same(spent_by(rule, SURE[:4], Sum(), [1, 2, 4], [None, BIG, -BIG]), [NONE, NONE, ALL])

    def test_number_and_level_look_by_look(self):
        rule, outcomes = Split(4, 2), [MAYBE] * 4
        for call, good, bad in ((Looks, HALF, None), (shown, HALF, None), (spent_by, None, HALF)):
            self.same(self.refused(NoLooks, call, rule, outcomes, Sum(), [1, 1, 3], [good, good, bad]).look, 1)
            self.same(self.refused(NoLooks, call, rule, outcomes, Sum(), [1, 2, 2], [good, bad, good]).look, 1)
            self.same(self.refused(NoLooks, call, rule, outcomes, Sum(), [1, 2, 2], [bad, good, good]).look, 0)
            self.same(self.refused(NoLooks, call, rule, outcomes, Sum(), [1, 2, 9], [good, good, bad]).look, 2)

    def test_no_folk_at_all(self):
        self.all_refuse(NoLooks, "look", 0, First(Split(4, 2), 0), [], Sum(), [1], [HALF], (Looks, shown))
        self.all_refuse(NoLooks, "look", 0, First(Split(4, 2), 0), [], Sum(), [0], [HALF], (Looks, shown))
        self.all_refuse(NoLooks, "look", 0, First(Split(4, 2), 0), [], Sum(), [1], [None], (spent_by,))

    def test_as_the_measure_refuses(self):
        late = [YES, YES, YES, MAYBE, YES, YES]
        for call, limit in ((Looks, HALF), (shown, HALF), (spent_by, 1)):
            for measure in (Sum(), Ranks(), Weighted(Sum(), [1, 1])):
                self.same(self.refused(NotSure, call, Split(6, 2), late, measure, [2, 4, 6], [limit] * 3).place, 3)
                self.same(self.refused(NotSure, call, Split(6, 2), late, measure, [6], [limit]).place, 3)
                call(Split(6, 2), late, measure, [1, 2, 3], [limit] * 3)
            self.same(self.refused(NoPairs, call, Pairs(3, HALF), UNSURE[:6], Signs(), [2, 3, 6], [limit] * 3).block, 0)
            self.same(self.refused(NoPairs, call, Split(6, 2), UNSURE[:6], Signs(), [2], [limit]).block, 0)
            pairs = Blocks([Pairs(2, HALF), Pairs(2, HALF)])
            self.same(self.refused(NoPairs, call, pairs, UNSURE, Signs(), [2, 4, 7], [limit] * 3).block, 1)
            mixed = Blocks([Pairs(1, HALF), Split(2, 1)])
            self.same(self.refused(NoPairs, call, mixed, UNSURE[:4], Signs(), [2, 4], [limit] * 2).block, 1)
            call(mixed, UNSURE[:4], Signs(), [2], [limit])
            # The first look has one block only; behind it there are more blocks than weights.
            self.same(self.refused(NoWeights, call, pairs, SURE, Weighted(Sum(), [3]), [2, 4, 6], [limit] * 3).found, [3])
            call(pairs, SURE, Weighted(Sum(), [3]), [2, 4], [limit] * 2)
            # The first look for which it is refused goes, whatever is amiss behind.
            unsure_late = [YES, YES, YES, YES, YES, MAYBE, YES, YES]
            self.same(self.refused(NoWeights, call, pairs, unsure_late, Weighted(Sum(), [3]), [4, 5, 8], [limit] * 3).found, [3])
            unsure_early = [YES, MAYBE, YES, YES, YES, YES, YES, YES]
            self.same(self.refused(NotSure, call, pairs, unsure_early, Weighted(Sum(), [3]), [4, 5, 8], [limit] * 3).place, 1)

    def test_looks_ahead_of_the_measure(self):
        for call, bad in ((Looks, None), (shown, None), (spent_by, HALF)):
            self.same(self.refused(NoLooks, call, Split(6, 2), [MAYBE] * 6, Signs(), [1, 2], [bad, bad]).look, 0)
            self.same(self.refused(NoLooks, call, Split(6, 2), [MAYBE] * 6, Signs(), [1, 7], [HALF if bad is None else 0] * 2).look, 1)

    def test_wins_need_not_be_sure(self):
        self.assertEqual(len(Looks(Split(6, 2), [MAYBE] * 6, Wins(), [1, 6], [HALF, HALF]).bounds()), 2)


class Spendings(DealCase):
    def test_words_and_kinds(self):
        for spending, word in ((Even(), "even"), (Late(), "late"), (Last(), "last")):
            self.same(spending.word(), word)
            self.assertIs(type(spending).__mro__[1], Spending)

    def test_one_to_six_looks(self):
        for level in (Fraction(0), Fraction(1), Fraction(1, 20), Fraction(3, 7), Fraction(10 ** 29, 10 ** 30 - 1)):
            for many in range(1, 7):
                parts = [Fraction(at + 1, many) for at in range(many)]
                self.same(Even().dealt_out(pair_of(level), many), [pair_of(level * part) for part in parts])
                self.same(Late().dealt_out(pair_of(level), many), [pair_of(level * part * part) for part in parts])
                self.same(Last().dealt_out(pair_of(level), many), [NONE] * (many - 1) + [pair_of(level)])

    def test_by_hand(self):
        self.same(Even().dealt_out((1, 20), 2), [(1, 40), (1, 20)])
        self.same(Late().dealt_out((1, 20), 3), [(1, 180), (1, 45), (1, 20)])
        self.same(Last().dealt_out((1, 20), 3), [NONE, NONE, (1, 20)])

    def test_refused(self):
        for spending in (Even(), Late(), Last()):
            for thing in NO_SHARES:
                for many in (1, 6, 0, 7, None):
                    self.assertIs(self.refused(NoLevel, spending.dealt_out, thing, many).found, thing)
            for thing in NO_NUMBERS + [0, 7, -1]:
                self.assertIs(self.refused(NoNumber, spending.dealt_out, HALF, thing).found, thing)
                self.assertIs(self.refused(NoNumber, spending.dealt_out, NONE, thing).found, thing)

    def test_told_lists(self):
        for spending in (Even(), Late(), Last()):
            self.untouched(spending.dealt_out, HALF, 4)

    def test_levels_for_looks(self):
        for spending in (Even(), Late(), Last()):
            looks = Looks(Split(6, 3), SURE[:6], Sum(), [2, 4, 6], spending.dealt_out((1, 4), 3))
            self.assertLessEqual(Fraction(*looks.spent()[-1]), Fraction(1, 4))
