"""Points 6, 9, 62, 63 and 64: looks at a trial that is still going on, their bounds, and what is spent."""

import time
from fractions import Fraction

from gonethrough import ALL, BIG, HALF, NO_NUMBERS, NONE, SURE, DealCase, dealt, levels_beside, never_dealt, pair_of, small_cases, value
from trialdeal.errors import NoDealing, NoNumber, NoPairs
from trialdeal.looks import Even, Late, Looks, shows_bounds, spent_by
from trialdeal.measures import Ranks, Signs, Sum, Weighted, Wins
from trialdeal.rules import Blocks, Coins, First, Pairs, Split

FRACTIONS = [Fraction(0), Fraction(1, 20), Fraction(1, 6), Fraction(1, 4), Fraction(2, 5), Fraction(1, 2), Fraction(9, 10), Fraction(1)]


def look_values(rule, outcomes, measure, many):
    scores = measure.scores(First(rule, many), outcomes[:many])
    return {dealing: value(scores, dealing) for dealing in dealt(rule)}


def wanted_looks(rule, outcomes, measure, numbers, levels):
    """The bounds, what is spent, the rows and the look of each dealing, as point 62 tells them."""
    shares = dealt(rule)
    called, bounds, spent, rows = {}, [], [], []
    for look, (many, level) in enumerate(zip(numbers, levels)):
        values = look_values(rule, outcomes, measure, many)
        left = [dealing for dealing in shares if dealing not in called]
        ahead = sum(shares[dealing] for dealing in called)
        known = sorted({values[dealing] for dealing in left}, reverse=True)
        rows.append([(each, pair_of(sum(shares[dealing] for dealing in left if values[dealing] == each))) for each in known])
        may = [each for each in known if ahead + sum(shares[dealing] for dealing in left if values[dealing] >= each) <= level]
        bound = min(may) if may else None
        bounds.append(bound)
        for dealing in left:
            if bound is not None and values[dealing] >= bound:
                called[dealing] = look
        spent.append(sum((shares[dealing] for dealing in called), Fraction(0)))
    return bounds, spent, rows, called


def some_numbers(rule, measure):
    """Lists of numbers of looks that the measure takes."""
    folk = rule.folk()
    whole = list(range(1, folk + 1))
    if "signs" in repr(measure.told()):
        whole = [many for many in whole if many % 2 == 0]
    lists = [whole[-1:], whole[:6], whole[-6:], whole[::2]]
    return [list(each) for each in dict.fromkeys(tuple(each) for each in lists)]


def some_levels(many):
    """Lists of levels for so many looks, rising, also alike, none and all."""
    return [
        [FRACTIONS[min(at, 7)] for at in range(many)], [FRACTIONS[min(at + 1, 7)] for at in range(many)], [Fraction(1, 4)] * many, [Fraction(0)] * many, [Fraction(1)] * many,
        [Fraction(0)] * (many - 1) + [Fraction(1, 2)], [Fraction(3 * (at + 1), 4 * many) for at in range(many)], [Fraction(1, 6)] + [Fraction(2, 5)] * (many - 1),
    ]


class Gone(DealCase):
    def alike(self, rule, outcomes, measure, numbers, levels):
        shares = [pair_of(level) for level in levels]
        looks = Looks(rule, outcomes, measure, numbers, shares)
        bounds, spent, rows, called = wanted_looks(rule, outcomes, measure, numbers, levels)
        self.same(looks.bounds(), bounds)
        self.same(looks.spent(), [pair_of(share) for share in spent])
        for look in range(len(numbers)):
            self.same(looks.rows_at(look), rows[look])
            self.assertLessEqual(spent[look], levels[look])
        for dealing in dealt(rule):
            self.same(looks.called(dealing), called.get(dealing))
        self.same(spent_by(rule, outcomes, measure, numbers, bounds), looks.spent())
        self.assertIs(shows_bounds(rule, outcomes, measure, numbers, shares, bounds), True)
        return looks

    def test_all_dealings_gone_through(self):
        for rule, outcomes, measure in small_cases():
            for numbers in some_numbers(rule, measure):
                for levels in some_levels(len(numbers)):
                    self.alike(rule, outcomes, measure, numbers, levels)

    def test_levels_just_at_a_share(self):
        for rule, outcomes, measure in ((Split(5, 2), SURE[:5], Sum()), (Blocks([Pairs(1, (1, 3)), Coins(3, (2, 5), 1)]), SURE[:5], Weighted(Ranks(), [1, 2]))):
            first = look_values(rule, outcomes, measure, 3)
            shares = dealt(rule)
            tails = {sum(shares[other] for other in shares if first[other] >= first[dealing]) for dealing in shares}
            for level in levels_beside(tails):
                self.alike(rule, outcomes, measure, [3, 5], [level, level])
                self.alike(rule, outcomes, measure, [3, 5], [level, Fraction(1)])
                self.alike(rule, outcomes, measure, [1, 3, 4], [Fraction(0), level, level])

    def test_by_hand(self):
        outcomes = [(4, True), (1, True), (3, True), (0, True)]
        looks = Looks(Split(4, 2), outcomes, Sum(), [2, 4], [(1, 6), (2, 3)])
        self.same(looks.bounds(), [5, 4])
        self.same(looks.spent(), [(1, 6), (2, 3)])
        self.same(looks.rows_at(0), [(5, (1, 6)), (4, (1, 3)), (1, (1, 3)), (0, (1, 6))])
        self.same(looks.rows_at(1), [(7, (1, 6)), (4, (1, 3)), (3, (1, 6)), (1, (1, 6))])
        self.same([looks.called(dealing) for dealing in (3, 5, 6, 9, 10, 12)], [0, 1, 1, 1, None, None])

    def test_a_look_at_which_nobody_is_called(self):
        looks = Looks(Split(4, 2), SURE[:4], Sum(), [1, 2, 3, 4], [NONE, NONE, HALF, HALF])
        self.same(looks.bounds()[:2], [None, None])
        self.same(looks.spent()[:2], [NONE, NONE])
        self.same(looks.rows_at(0), [(3, HALF), (0, HALF)])
        looks = Looks(Split(4, 2), SURE[:4], Sum(), [1, 2, 4], [HALF, HALF, HALF])
        self.same(looks.bounds(), [3, None, None])
        self.same(looks.spent(), [HALF, HALF, HALF])

    def test_all_called_at_once(self):
        looks = Looks(Coins(3, (1, 3), 20), SURE[:3], Sum(), [1, 2, 3], [ALL, ALL, ALL])
        self.same(looks.bounds(), [0, None, None])
        self.same(looks.spent(), [ALL, ALL, ALL])
        self.same((looks.rows_at(1), looks.rows_at(2)), ([], []))
        self.same([looks.called(dealing) for dealing in range(8)], [0] * 8)

    def test_six_looks_let_by(self):
        self.alike(Coins(6, (1, 3), 2), SURE[:6], Sum(), [1, 2, 3, 4, 5, 6], [Fraction(at, 12) for at in range(1, 7)])

    def test_what_is_no_look(self):
        looks = Looks(Split(4, 2), SURE[:4], Sum(), [2, 4], [HALF, HALF])
        for thing in NO_NUMBERS + [-1, 2, 3]:
            self.assertIs(self.refused(NoNumber, looks.rows_at, thing).found, thing)

    def test_what_is_never_dealt(self):
        for rule in (Split(4, 2), Pairs(2, HALF), Coins(4, HALF, 1), Blocks([Split(2, 1), Split(2, 2)]), First(Split(5, 1), 4)):
            looks = Looks(rule, SURE[:4], Sum(), [2, 4], [HALF, HALF])
            for thing in NO_NUMBERS + [-1] + never_dealt(rule):
                self.assertIs(self.refused(NoDealing, looks.called, thing).found, thing)

    def test_later_outcomes_change_no_earlier_bound(self):
        levels = [(1, 8), (1, 4), (3, 8), HALF]
        for rule in (Split(6, 3), Coins(6, (1, 3), 3), Pairs(3, (1, 3)), Blocks([Split(3, 2), Split(3, 1)])):
            for measure in (Sum(), Ranks(), Wins(), Weighted(Ranks(), [2, 1])):
                told = Looks(rule, SURE[:6], measure, [2, 3, 4, 6], levels)
                for many, known in ((2, 1), (3, 2), (4, 3)):
                    other = Looks(rule, SURE[:many] + [(-99, True), (99, True), (50, True), (1, True)][many - 2:], measure, [2, 3, 4, 6], levels)
                    self.same((other.bounds()[:known], other.spent()[:known]), (told.bounds()[:known], told.spent()[:known]))
                    self.same([other.rows_at(look) for look in range(known)], [told.rows_at(look) for look in range(known)])

    def test_twelve_folk_in_good_time(self):
        outcomes = [((7 * at * at + 3 * at) % 41 - 20, True) for at in range(12)]
        began = time.process_time()
        for rule in (Coins(12, (37, 99), 20), Split(12, 6), Blocks([Coins(6, (1, 97), 20), Coins(6, (50, 99), 20)]), Pairs(6, (1, 3))):
            for measure in (Sum(), Wins(), Weighted(Ranks(), [3, 2])):
                levels = Late().dealt_out((1, 20), 6)
                looks = Looks(rule, outcomes, measure, [2, 4, 6, 8, 10, 12], levels)
                shares = dealt(rule)
                called = {dealing: looks.called(dealing) for dealing in shares}
                wanted = [sum((share for dealing, share in shares.items() if called[dealing] in range(look + 1)), Fraction(0)) for look in range(6)]
                self.same(looks.spent(), [pair_of(share) for share in wanted])
                self.assertTrue(all(share <= Fraction(*level) for share, level in zip(wanted, levels)))
        self.assertLess(time.process_time() - began, 30)

    def test_pairs_at_whole_pairs(self):
        looks = Looks(Pairs(3, (1, 3)), SURE[:6], Signs(), [2, 4, 6], [HALF, HALF, (2, 3)])
        bounds, spent, rows, called = wanted_looks(Pairs(3, (1, 3)), SURE[:6], Signs(), [2, 4, 6], [Fraction(1, 2)] * 2 + [Fraction(2, 3)])
        self.same(looks.bounds(), bounds)
        self.same(self.refused(NoPairs, Looks, Pairs(3, HALF), SURE[:6], Signs(), [2, 3], [HALF, HALF]).block, 0)


class Spent(DealCase):
    def wanted(self, rule, outcomes, measure, numbers, bounds):
        shares = dealt(rule)
        called, spent = set(), []
        for many, bound in zip(numbers, bounds):
            values = look_values(rule, outcomes, measure, many)
            if bound is not None:
                called.update(dealing for dealing in shares if values[dealing] >= bound)
            spent.append(pair_of(sum((shares[dealing] for dealing in called), Fraction(0))))
        return spent

    def test_any_bounds(self):
        for rule, outcomes, measure in small_cases():
            for numbers in some_numbers(rule, measure):
                for first in (None, -3, 0, 2, 5, 12, BIG, -BIG):
                    bounds = [first, 4, None, 1, -2, 0][:len(numbers)]
                    self.same(spent_by(rule, outcomes, measure, numbers, bounds), self.wanted(rule, outcomes, measure, numbers, bounds))
                    bounds = ([None] * 5 + [first])[-len(numbers):]
                    self.same(spent_by(rule, outcomes, measure, numbers, bounds), self.wanted(rule, outcomes, measure, numbers, bounds))

    def test_by_hand(self):
        outcomes = [(4, True), (1, True), (3, True), (0, True)]
        self.same(spent_by(Split(4, 2), outcomes, Sum(), [2, 4], [5, 4]), [(1, 6), (2, 3)])
        self.same(spent_by(Split(4, 2), outcomes, Sum(), [2, 4], [None, 5]), [NONE, (1, 3)])
        self.same(spent_by(Split(4, 2), outcomes, Sum(), [2, 4], [4, None]), [HALF, HALF])
        self.same(spent_by(Split(4, 2), outcomes, Sum(), [2], [0]), [ALL])


class Shown(DealCase):
    def test_told_bounds_and_others(self):
        for rule, outcomes, measure in small_cases():
            if rule.folk() < 4:
                continue
            numbers, levels = [2, 4], [(1, 5), HALF]
            bounds = Looks(rule, outcomes, measure, numbers, levels).bounds()
            question = (rule, outcomes, measure, numbers, levels)
            self.assertIs(shows_bounds(*question, list(bounds)), True)
            for look in range(2):
                for other in (7777, None, (bounds[look] or 0) + 1, (bounds[look] or 0) - 1, True, False, "", [bounds[look]], (bounds[look],)):
                    if other is not bounds[look] and (isinstance(other, bool) or other != bounds[look]):
                        self.assertIs(shows_bounds(*question, bounds[:look] + [other] + bounds[look + 1:]), False)
                self.assertIs(shows_bounds(*question, bounds[:look] + bounds[look + 1:]), False)
                self.assertIs(shows_bounds(*question, bounds[:look] + [bounds[look]] + bounds[look:]), False)
                self.assertIs(shows_bounds(*question, bounds[:look] + [None] + bounds[look:]), False)
            for thing in NO_NUMBERS + [0, tuple(bounds), {0: bounds}, [bounds], bounds * 2, bounds[::-1] + [0]]:
                self.assertIs(shows_bounds(*question, thing), False)

    def test_a_truth_in_the_place_of_a_number(self):
        outcomes = [(1, True), (0, True), (0, True), (0, True)]
        question = (Split(4, 2), outcomes, Sum(), [1, 4], [HALF, ALL])
        self.same(Looks(*question).bounds(), [1, 0])
        self.assertIs(shows_bounds(*question, [1, 0]), True)
        for thing in ([True, 0], [1, False], [True, False]):
            self.assertIs(shows_bounds(*question, thing), False)


class Kept(DealCase):
    def test_lists_changed_behind(self):
        outcomes, numbers, levels = SURE[:5], [2, 4, 5], [(1, 5), HALF, HALF]
        looks = Looks(Split(5, 2), outcomes, Sum(), numbers, levels)
        told = [looks.bounds(), looks.spent(), [looks.rows_at(look) for look in range(3)], [looks.called(dealing) for dealing in dealt(Split(5, 2))]]
        outcomes.clear()
        numbers[0] = 5
        levels[:] = [ALL] * 3
        for call in (looks.bounds, looks.spent):
            self.untouched(call)
        self.untouched(looks.rows_at, 1)
        again = Looks(Split(5, 2), SURE[:5], Sum(), [2, 4, 5], [(1, 5), HALF, HALF])
        for each in (looks, again):
            self.same([each.bounds(), each.spent(), [each.rows_at(look) for look in range(3)], [each.called(dealing) for dealing in dealt(Split(5, 2))]], told)

    def test_handed_in(self):
        question = (Split(5, 2), SURE[:5], Sum(), [2, 4, 5])
        self.untouched(spent_by, *question, [3, None, 1])
        self.untouched(shows_bounds, *question, Even().dealt_out(HALF, 3), [1, 2, 3])
        self.untouched(lambda *things: Looks(*things).bounds(), *question, Even().dealt_out(HALF, 3))
