"""Points 6, 10 and 81 to 84: shifts, their two shares, and the stretch of those that are not ruled out."""

import time
from fractions import Fraction

from gonethrough import ALIKE, ALL, HALF, NO_NUMBERS, NO_SHARES, NONE, SURE, UNSURE, DealCase, dealt, levels_beside, never_dealt, pair_of, small_rules, takes_signs, value
from trialdeal.errors import NoChoice, NoDealing, NoFolk, NoLevel, NoNumber, NoOutcome, NoPairs, NotSure, TooMany
from trialdeal.measures import Ranks, Signs, Sum, Weighted, Wins
from trialdeal.rules import Blocks, Coins, First, Pairs, Split
from trialdeal.shifts import shift_shares, shows_stretch, stretch_of, stretch_paper, taken_off

YES = (1, True)
MAYBE = (1, False)
WIDE = [(-99, True), (99, True), (98, True), (-99, True), (0, True), (50, True)]


def sign(number):
    return (number > 0) - (number < 0)


def wanted_shares(rule, outcomes, measure, dealing, shift):
    """The high and the low share, by all dealings gone through."""
    numbers = [number - shift * (dealing >> at & 1) for at, (number, sure) in enumerate(outcomes)]
    scores = numbers
    if measure.word() == "signs":
        scores = [sign(number - numbers[at + 1 - 2 * (at % 2)]) for at, number in enumerate(numbers)]
    seen = value(scores, dealing)
    shares = dealt(rule)
    high = sum(share for other, share in shares.items() if value(scores, other) >= seen)
    return high, sum(share for other, share in shares.items() if value(scores, other) <= seen)


def some_cases():
    """Tuples (rule, outcomes, measure)."""
    cases = []
    for rule in small_rules():
        for outcomes in (SURE, ALIKE, WIDE):
            cases.append((rule, outcomes[:rule.folk()], Sum()))
            if takes_signs(rule):
                cases.append((rule, outcomes[:rule.folk()], Signs()))
    return [case for case in cases if len(case[1]) == case[0].folk()]


def some_shifts(outcomes):
    """The ends, and shifts beside the differences of the numbers."""
    numbers = [number for number, sure in outcomes]
    shifts = {-10000, -9999, -4001, -4000, -1, 0, 1, 4000, 4001, 9999, 10000}
    for one in numbers:
        for other in numbers:
            shifts.update((one - other - 1, one - other, one - other + 1))
    return sorted(shifts)


class TakenOff(DealCase):
    def test_ordinary(self):
        self.same(taken_off([(3, True), (-1, True), (0, True)], 5, 4), [-1, -1, -4])
        self.same(taken_off([(3, True), (-1, True), (0, True)], 2, -4), [3, 3, 0])
        self.same(taken_off([(99, True), (-99, True)], 3, 10000), [-9901, -10099])
        self.same(taken_off([(99, True), (-99, True)], 3, -10000), [10099, 9901])
        self.same(taken_off([(99, True), (-99, True)], 0, 10000), [99, -99])
        self.same(taken_off([], 0, 7), [])
        self.same(taken_off(SURE, 255, 0), [number for number, sure in SURE])

    def test_the_order_of_refusals(self):
        for thing in (None, (YES,), "1", 7, {}, True):
            self.assertIs(self.refused(NoFolk, taken_off, thing, None, None).found, thing)
        self.same(self.refused(NoOutcome, taken_off, [MAYBE, YES, 7], None, None).place, 2)
        self.same(self.refused(NotSure, taken_off, [YES, MAYBE, MAYBE], None, None).place, 1)
        for thing in NO_NUMBERS + [-1, 8, 9]:
            self.assertIs(self.refused(NoDealing, taken_off, [YES] * 3, thing, None).found, thing)
        self.same(self.refused(NoDealing, taken_off, [], 1, 0).found, 1)
        for thing in NO_NUMBERS + [10001, -10001]:
            self.assertIs(self.refused(NoNumber, taken_off, [YES] * 3, 7, thing).found, thing)

    def test_handed_in_and_told(self):
        self.untouched(taken_off, SURE, 5, 3)


class Shares(DealCase):
    def test_all_dealings_gone_through(self):
        for rule, outcomes, measure in some_cases():
            dealings = list(dealt(rule))
            for dealing in dealings[::max(1, len(dealings) // 4)]:
                for shift in some_shifts(outcomes):
                    high, low = wanted_shares(rule, outcomes, measure, dealing, shift)
                    self.same(shift_shares(rule, outcomes, measure, dealing, shift), (pair_of(high), pair_of(low)))

    def test_by_hand(self):
        outcomes = [(5, True), (4, True), (1, True), (0, True)]
        self.same(shift_shares(Split(4, 2), outcomes, Sum(), 3, 0), ((1, 6), ALL))
        self.same(shift_shares(Split(4, 2), outcomes, Sum(), 3, 4), ((5, 6), (5, 6)))
        self.same(shift_shares(Split(4, 2), outcomes, Sum(), 3, 10000), (ALL, (1, 6)))
        self.same(shift_shares(Split(4, 2), outcomes, Sum(), 3, -10000), ((1, 6), ALL))
        self.same(shift_shares(Pairs(1, (1, 3)), [(5, True), (4, True)], Signs(), 1, 0), ((1, 3), ALL))
        self.same(shift_shares(Pairs(1, (1, 3)), [(5, True), (4, True)], Signs(), 1, 1), (ALL, ALL))
        self.same(shift_shares(Pairs(1, (1, 3)), [(5, True), (4, True)], Signs(), 1, 2), (ALL, (1, 3)))

    def test_they_never_turn_back(self):
        for rule, outcomes, measure in some_cases():
            dealing = list(dealt(rule))[len(dealt(rule)) // 2]
            rows = [shift_shares(rule, outcomes, measure, dealing, shift) for shift in some_shifts(outcomes)]
            for (high, low), (more, less) in zip(rows, rows[1:]):
                self.assertLessEqual(Fraction(*high), Fraction(*more))
                self.assertGreaterEqual(Fraction(*low), Fraction(*less))
            for shift in (4000, 5000):
                self.same(shift_shares(rule, outcomes, measure, dealing, shift), rows[-1])
                self.same(shift_shares(rule, outcomes, measure, dealing, -shift), rows[0])

    def test_no_folk(self):
        none = First(Split(4, 2), 0)
        self.same(shift_shares(none, [], Sum(), 0, 7), (ALL, ALL))
        self.same(stretch_of(none, [], Sum(), 0, HALF), (None, None))
        self.same(stretch_of(none, [], Sum(), 0, ALL), None)


class Stretches(DealCase):
    def wanted(self, rule, outcomes, measure, dealing, level, known):
        """The stretch, by the shares of all shifts from -200 to 200, which are those of all."""
        kept = [shift for shift, (high, low) in known.items() if high > level and low > level]
        if not kept:
            return None
        self.assertEqual(kept, list(range(kept[0], kept[-1] + 1)))
        return (None if kept[0] == -200 else kept[0], None if kept[-1] == 200 else kept[-1])

    def test_all_shifts_gone_through(self):
        near = [(3, True), (-1, True), (3, True), (0, True), (7, True), (-1, True)]
        for rule, measure in (
            (Split(4, 2), Sum()), (Split(3, 3), Sum()), (Split(3, 0), Sum()), (Coins(3, (1, 3), 2), Sum()), (Pairs(2, (1, 3)), Sum()), (Pairs(2, (1, 3)), Signs()),
            (Pairs(3, HALF), Signs()), (Blocks([Pairs(1, HALF), Pairs(1, (1, 3))]), Signs()), (First(Split(5, 2), 3), Sum()), (Blocks([Split(2, 1), Coins(2, HALF, 1)]), Sum()),
        ):
            outcomes = near[:rule.folk()]
            for dealing in list(dealt(rule))[::2]:
                known = {shift: wanted_shares(rule, outcomes, measure, dealing, shift) for shift in range(-200, 201)}
                shares = {share for row in known.values() for share in row}
                for level in levels_beside(shares):
                    wanted = self.wanted(rule, outcomes, measure, dealing, level, known)
                    question = (rule, outcomes, measure, dealing, pair_of(level))
                    self.same(stretch_of(*question), wanted)
                    paper = stretch_paper(*question)
                    self.same(paper[0], wanted)
                    self.assertIs(shows_stretch(*question, paper), True)

    def test_by_hand(self):
        outcomes = [(5, True), (4, True), (1, True), (0, True)]
        question = (Split(4, 2), outcomes, Sum(), 3)
        self.same(stretch_of(*question, NONE), (None, None))
        self.same(stretch_of(*question, ALL), None)
        self.same(stretch_of(*question, (1, 7)), (None, None))
        self.same(stretch_of(*question, (1, 6)), (3, 5))
        self.same(stretch_of(*question, (49, 100)), (4, 4))
        self.same(stretch_of(*question, (4, 5)), (4, 4))
        self.same(stretch_of(*question, (5, 6)), None)
        self.same(stretch_of(Split(4, 2), [(5, True), (4, True), (2, True), (0, True)], Sum(), 3, HALF), None)
        self.same(stretch_of(Pairs(1, (1, 3)), [(5, True), (4, True)], Signs(), 1, (1, 3)), (1, 1))
        self.same(stretch_of(Pairs(1, (1, 3)), [(5, True), (4, True)], Signs(), 1, (1, 4)), (None, None))

    def test_open_at_one_end(self):
        # Far out only those dealings are told that hold the seen one: it has 2/9, the other one 1/9.
        rule = Coins(2, (1, 3), 20)
        for outcomes, ends in (([(4, True), (1, True)], ((1, 3), (2, 9))), ([(4, True), (-1, True)], ((2, 9), (1, 3)))):
            self.same((shift_shares(rule, outcomes, Sum(), 1, -10000)[0], shift_shares(rule, outcomes, Sum(), 1, 10000)[1]), ends)
        self.same(stretch_of(rule, [(4, True), (1, True)], Sum(), 1, (2, 9)), (None, 4))
        self.same(stretch_of(rule, [(4, True), (-1, True)], Sum(), 1, (2, 9)), (4, None))

    def test_great_rules_in_good_time(self):
        outcomes = [((7 * at * at + 3 * at) % 41 - 20, True) for at in range(20)]
        began = time.process_time()
        for rule, measure, dealing in ((Split(20, 4), Sum(), 15), (Pairs(10, (1, 3)), Signs(), int("01" * 10, 2)), (Split(20, 4), Sum(), 15 << 16)):
            paper = stretch_paper(rule, outcomes, measure, dealing, (1, 20))
            self.assertIs(shows_stretch(rule, outcomes, measure, dealing, (1, 20), paper), True)
            for shift, high, low in paper[1]:
                self.same(wanted_shares(rule, outcomes, measure, dealing, shift), (Fraction(*high), Fraction(*low)))
        self.assertLess(time.process_time() - began, 20)


class Refused(DealCase):
    """Each call is handed the question, and then a shift or a level."""

    def calls(self):
        return (shift_shares, stretch_of, stretch_paper, lambda *things: shows_stretch(*things, None))

    def test_another_measure(self):
        for measure in (Ranks(), Wins(), Weighted(Sum(), [1]), Weighted(Signs(), [1])):
            for call in self.calls():
                self.assertIs(self.refused(NoChoice, call, Split(20, 10), None, measure, None, None).found, measure)
                self.assertIs(self.refused(NoChoice, call, Split(4, 2), [YES] * 4, measure, 3, HALF).found, measure)

    def test_as_the_measure_refuses(self):
        for call in self.calls():
            for measure in (Sum(), Signs()):
                self.assertIs(self.refused(NoFolk, call, Split(20, 10), (YES,), measure, None, None).found.__class__, tuple)
                self.same(self.refused(NoOutcome, call, Split(20, 10), [MAYBE, 7], measure, None, None).place, 1)
                self.same(self.refused(NoFolk, call, Split(20, 10), [MAYBE] * 19, measure, None, None).found, 19)
            self.same(self.refused(NotSure, call, Split(20, 10), [YES] * 19 + [MAYBE], Sum(), None, None).place, 19)
            self.same(self.refused(NoPairs, call, Split(20, 10), [MAYBE] * 20, Signs(), None, None).block, 0)
            self.same(self.refused(NoPairs, call, Blocks([Pairs(1, HALF), Split(2, 1)]), [MAYBE] * 4, Signs(), None, None).block, 1)
            self.same(self.refused(NoPairs, call, First(Pairs(2, HALF), 3), [MAYBE] * 3, Signs(), None, None).block, 0)

    def test_signs_need_sure_ones(self):
        for call in self.calls():
            self.same(self.refused(NotSure, call, Pairs(4, HALF), UNSURE, Signs(), None, None).place, 0)
            self.same(self.refused(NotSure, call, Pairs(2, HALF), [YES, YES, YES, MAYBE], Signs(), 0, HALF).place, 3)

    def test_what_is_no_dealing(self):
        for call in self.calls():
            for rule, measure in ((Split(4, 2), Sum()), (Pairs(2, HALF), Signs()), (First(Split(6, 1), 4), Sum())):
                for thing in NO_NUMBERS + [-1] + never_dealt(rule):
                    self.assertIs(self.refused(NoDealing, call, rule, [YES] * 4, measure, thing, None).found, thing)
            self.same(self.refused(NoDealing, call, Split(20, 10), [YES] * 20, Sum(), 0, None).found, 0)

    def test_what_is_no_shift(self):
        for thing in NO_NUMBERS + [10001, -10001]:
            self.assertIs(self.refused(NoNumber, shift_shares, Split(4, 2), [YES] * 4, Sum(), 3, thing).found, thing)
            self.assertIs(self.refused(NoNumber, shift_shares, Split(20, 10), [YES] * 20, Sum(), 1023, thing).found, thing)

    def test_what_is_no_level(self):
        for call in self.calls()[1:]:
            for thing in NO_SHARES:
                self.assertIs(self.refused(NoLevel, call, Split(4, 2), [YES] * 4, Sum(), 3, thing).found, thing)
                self.assertIs(self.refused(NoLevel, call, Split(20, 10), [YES] * 20, Sum(), 1023, thing).found, thing)

    def test_too_many(self):
        for rule, dealing in ((Split(20, 10), 1023), (Split(15, 6), 63), (Coins(13, HALF, 20), 0), (Blocks([Split(14, 4), Split(5, 1)]), 15 + (1 << 14))):
            outcomes = [YES] * rule.folk()
            self.same(self.refused(TooMany, shift_shares, rule, outcomes, Sum(), dealing, 0).many, 5001)
            for call in self.calls()[1:]:
                self.same(self.refused(TooMany, call, rule, outcomes, Sum(), dealing, HALF).many, 5001)
        rule = Blocks([Split(5, 2), Split(5, 3), Split(5, 2), Split(5, 1)])
        self.same(shift_shares(rule, [YES] * 20, Sum(), 0b00001_00011_00111_00011, 0), (ALL, ALL))


class Kept(DealCase):
    def test_handed_in_and_told(self):
        question = (Split(5, 2), SURE[:5], Sum(), 3)
        self.untouched(shift_shares, *question, 2)
        self.untouched(stretch_of, *question, (1, 5))
        self.untouched(stretch_paper, *question, (1, 5))
        self.untouched(shows_stretch, *question, (1, 5), stretch_paper(*question, (1, 5)))
