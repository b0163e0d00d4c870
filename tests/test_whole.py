"""Points 9 and 10: what is promised over the whole, by all dealings gone through for small trials of each rule and measure."""

from fractions import Fraction
from itertools import permutations, product

from gonethrough import ALL, HALF, NONE, SURE, DealCase, dealt, pair_of, small_cases, told_by_all, value
from trialdeal.betters import fits, kept_pairs, listing_counts, listing_shares, net_stretch, pair_rows, shows_kept
from trialdeal.desk import Desk
from trialdeal.looks import Even, Last, Late, Looks, spent_by
from trialdeal.measures import Ranks, Signs, Sum, Wins
from trialdeal.pouring import Poured, as_blocks
from trialdeal.power import coins_maker, least_folk, pairs_maker, power_of, power_rows, split_maker
from trialdeal.questions import Questions
from trialdeal.rules import Coins, First, Pairs, Split
from trialdeal.shifts import shift_shares, shows_stretch, stretch_of, stretch_paper
from trialdeal.tables import shows_table, spread_of, table_of
from trialdeal.toldshare import called_at, told_share
from trialdeal.trials import Trial
from trialdeal.trialtext import read_trial, trial_text
from trialdeal.worlds import outcomes_under, shifted_world, spared_world, world_of

LEVELS = [Fraction(0), Fraction(1, 20), Fraction(1, 6), Fraction(3, 10), Fraction(1, 2), Fraction(1)]


def look_numbers(rule, measure):
    """Numbers of looks that the measure takes."""
    numbers = list(range(1, rule.folk() + 1))
    if "signs" in repr(measure.told()):
        numbers = numbers[1::2]
    return numbers[-4:]


def effects():
    """What a dealing may do to the outcomes of other questions."""
    return [
        lambda dealing, row: [(number + 40 * (dealing >> at & 1), sure) for at, (number, sure) in enumerate(row)],
        lambda dealing, row: [(number - 40 * (dealing >> at & 1), sure) for at, (number, sure) in enumerate(row)],
        lambda dealing, row: row[dealing % len(row):] + row[:dealing % len(row)],
    ]


class Shares(DealCase):
    def test_told_shares_and_their_tables(self):
        for rule, outcomes, measure in small_cases():
            scores = measure.scores(rule, outcomes)
            table = table_of(rule, scores)
            self.assertIs(shows_table(rule, scores, table), True)
            for dealing, share in told_by_all(rule, scores).items():
                self.same(told_share(rule, outcomes, measure, dealing), pair_of(share))
                own = value(scores, dealing)
                self.assertEqual(sum(Fraction(*part) for (state, total), part in table[-1].items() if total >= own), share)
            for at, layer in enumerate(table):
                for key in layer:
                    other = [dict(each) for each in table]
                    other[at][key] = (1, 997)
                    self.assertIs(shows_table(rule, scores, other), False)

    def test_called_dealings(self):
        for rule, outcomes, measure in small_cases():
            told = told_by_all(rule, measure.scores(rule, outcomes))
            shares = dealt(rule)
            for level in LEVELS:
                called = called_at(rule, outcomes, measure, pair_of(level))
                self.same(called, [dealing for dealing in shares if told[dealing] <= level])
                self.assertLessEqual(sum(shares[dealing] for dealing in called), level)

    def test_looks(self):
        for rule, outcomes, measure in small_cases():
            shares = dealt(rule)
            numbers = look_numbers(rule, measure)
            for spending, level in product((Even(), Late(), Last()), LEVELS):
                levels = spending.dealt_out(pair_of(level), len(numbers))
                looks = Looks(rule, outcomes, measure, numbers, levels)
                called = {dealing: looks.called(dealing) for dealing in shares}
                for look, share in enumerate(levels):
                    spent = sum((shares[dealing] for dealing in shares if called[dealing] is not None and called[dealing] <= look), Fraction(0))
                    self.assertLessEqual(spent, Fraction(*share))
                    self.same(looks.spent()[look], pair_of(spent))
                self.assertLessEqual(sum(shares[dealing] for dealing in shares if called[dealing] is not None), level)
                self.same(spent_by(rule, outcomes, measure, numbers, looks.bounds()), looks.spent())

    def test_one_look_at_all_is_the_trial(self):
        for rule, outcomes, measure in small_cases():
            for level in LEVELS:
                looks = Looks(rule, outcomes, measure, [rule.folk()], [pair_of(level)])
                self.same([dealing for dealing in dealt(rule) if looks.called(dealing) == 0], called_at(rule, outcomes, measure, pair_of(level)))

    def test_questions(self):
        for rule, outcomes, measure in small_cases()[::3]:
            rows = [outcomes, outcomes[1:] + outcomes[:1], outcomes[::-1]]
            for untouched, effect in product(((0,), (0, 2), (1, 2)), effects()):
                whole = {level: Fraction(0) for level in LEVELS}
                for dealing, share in dealt(rule).items():
                    changed = [row if at in untouched else effect(dealing, row) for at, row in enumerate(rows)]
                    questions = Questions(rule, changed, measure)
                    for level in LEVELS:
                        if any(at in untouched for at in questions.called(dealing, pair_of(level))):
                            whole[level] += share
                self.assertTrue(all(whole[level] <= level for level in LEVELS), (rule.told(), measure.told(), whole))

    def test_a_question_comes_with_its_sets(self):
        for rule, outcomes, measure in small_cases()[::2]:
            rows = [outcomes, outcomes[1:] + outcomes[:1], outcomes[::-1]]
            questions = Questions(rule, rows, measure)
            for dealing in dealt(rule):
                for level in LEVELS:
                    paper = questions.paper(dealing, pair_of(level))
                    self.assertIs(questions.shows_paper(dealing, pair_of(level), paper), True)
                    self.same(questions.called(dealing, pair_of(level)), [at for at in paper if paper[at][0] == "called"])
                    for question, row in paper.items():
                        holding = [several for several in range(1, 8) if several >> question & 1]
                        if row[0] == "called":
                            self.same(list(row[1]), holding)
                            self.assertTrue(all(Fraction(*row[1][several]) <= level and row[1][several] == questions.set_share(several, dealing) for several in holding))
                            self.assertLessEqual(Fraction(*told_share(rule, rows[question], measure, dealing)), level)
                        else:
                            self.assertIn(row[1], holding)
                            self.assertGreater(Fraction(*row[2]), level)
                            self.same(row[2], questions.set_share(row[1], dealing))


class Effects(DealCase):
    def test_stretches_have_no_holes(self):
        for rule, outcomes, measure in small_cases():
            if measure.word() not in ("sum", "signs") or not all(sure for number, sure in outcomes):
                continue
            dealing = list(dealt(rule))[-1]
            shares = {shift: [Fraction(*share) for share in shift_shares(rule, outcomes, measure, dealing, shift)] for shift in range(-40, 41)}
            for level in LEVELS:
                kept = [shift for shift in shares if min(shares[shift]) > level]
                stretch = stretch_of(rule, outcomes, measure, dealing, pair_of(level))
                self.assertEqual(kept, list(range(kept[0], kept[-1] + 1)) if kept else [])
                self.same(stretch, (None if kept[0] == -40 else kept[0], None if kept[-1] == 40 else kept[-1]) if kept else None)
                paper = stretch_paper(rule, outcomes, measure, dealing, pair_of(level))
                self.assertIs(shows_stretch(rule, outcomes, measure, dealing, pair_of(level), paper), True)
                for end in stretch or ():
                    told = {row[0] for row in paper[1]}
                    self.assertTrue(end is None or (end in told and (end - 1 in told or end + 1 in told)))

    def test_the_shift_in_truth_is_ruled_out_in_few_dealings(self):
        for rule, measure in ((Split(5, 2), Sum()), (Coins(4, (1, 3), 3), Sum()), (Pairs(2, (1, 3)), Signs()), (First(Split(6, 3), 4), Sum())):
            for shift, level in product((-7, 0, 4), LEVELS):
                world = shifted_world(SURE, shift)
                high, low = Fraction(0), Fraction(0)
                for dealing, share in dealt(rule).items():
                    seen = outcomes_under(rule.folk(), world, dealing)
                    shares = [Fraction(*each) for each in shift_shares(rule, seen, measure, dealing, shift)]
                    high += share if shares[0] <= level else 0
                    low += share if shares[1] <= level else 0
                self.assertLessEqual(high, level)
                self.assertLessEqual(low, level)

    def test_pairs(self):
        listed = ((1, 0), (0, 1), (1, 1), (0, 0))
        for row, dealing in (((1, 0, 1, 0), 3), ((1, 1, 0, 0), 3), ((0, 1, 1, 1), 6), ((1, 1, 0), 3), ((0, 0, 1, 1, 1), 28)):
            outcomes = [(each, True) for each in row]
            listings = [list(listing) for listing in product(listed, repeat=len(row)) if fits(list(listing), outcomes, dealing)]
            for level in LEVELS:
                told = kept_pairs(outcomes, dealing, pair_of(level))
                for pair in {listing_counts(listing)[:2] for listing in listings} | set(told):
                    mine = [listing for listing in listings if listing_counts(listing)[:2] == pair]
                    kept = [listing for listing in mine if min(Fraction(*share) for share in listing_shares(listing, dealing)) > level]
                    self.assertTrue(told[pair] in kept if kept else told[pair] is None)
                    rows = pair_rows(outcomes, dealing, pair)
                    self.assertEqual(any(min(Fraction(*high), Fraction(*low)) > level for four, high, low in rows), bool(kept))
                self.assertIs(shows_kept(outcomes, dealing, pair_of(level), told), True)
                nets = [better - worse for (better, worse), listing in told.items() if listing is not None]
                self.same(net_stretch(outcomes, dealing, pair_of(level)), (min(nets), max(nets)) if nets else None)

    def test_pours_and_blocks(self):
        for measure in (Sum(), Ranks(), Wins()):
            trials = [Trial(Split(4, 2), SURE[:4], measure, 5), Trial(Pairs(1, (1, 3)), SURE[2:4], measure, 2), Trial(Coins(3, (2, 5), 1), SURE[4:7], measure, 2)]
            wanted = Poured(trials)
            wanted = (wanted.seen(), wanted.spread(), wanted.share())
            for several in permutations(trials):
                one, two, three = several
                for pour in (Poured(list(several)), Poured([Poured([one, two]), three]), Poured([one, Poured([two, three])]), Poured([Poured([one]), Poured([Poured([two]), three])]), as_blocks(list(several))):
                    self.same((pour.seen(), pour.spread(), pour.share()), wanted)
            sums = {}
            for dealings in product(*[dealt(trial.rule).items() for trial in trials]):
                total, share = 0, Fraction(1)
                for trial, (dealing, part) in zip(trials, dealings):
                    total += value(trial.measure.scores(trial.rule, list(trial.outcomes)), dealing)
                    share *= part
                sums[total] = sums.get(total, 0) + share
            self.same(wanted[1], {total: pair_of(sums[total]) for total in sorted(sums)})

    def test_powers(self):
        worlds = [shifted_world(SURE, 5), spared_world(shifted_world(SURE, -3), [0, 3]), world_of([(each, (0, True)) for each in SURE])]
        for rule, outcomes, measure in small_cases()[::2]:
            for world in worlds:
                for level in LEVELS:
                    power = Fraction(0)
                    for dealing, share in dealt(rule).items():
                        seen = outcomes_under(rule.folk(), world, dealing)
                        power += share if dealing in called_at(rule, seen, measure, pair_of(level)) else 0
                    self.same(power_of(rule, world, measure, pair_of(level)), pair_of(power))
                self.same(sum(Fraction(*share) for dealing, share, told in power_rows(rule, world, measure)), Fraction(1))

    def test_the_least_number_of_folk(self):
        world = shifted_world(SURE, 6)
        for maker in (split_maker(), pairs_maker((1, 3)), coins_maker(HALF, 2)):
            powers = {folk: Fraction(*power_of(maker(folk), world, Sum(), (1, 5))) for folk in range(1, 9) if maker(folk) is not None}
            for wanted in (Fraction(0), Fraction(1, 10), Fraction(1, 3), Fraction(2, 3), Fraction(1)):
                enough = [folk for folk in powers if powers[folk] >= wanted]
                told = least_folk(maker, world, Sum(), (1, 5), pair_of(wanted), 1, 8)
                self.same(told, (enough[0], pair_of(powers[enough[0]])) if enough else None)


class Texts(DealCase):
    def test_a_desk_tells_the_same_as_its_trials(self):
        desk = Desk()
        for rule, outcomes, measure in small_cases():
            if rule.told()[0] == "first":
                continue
            for dealing in list(dealt(rule))[:3]:
                trial = Trial(rule, outcomes, measure, dealing)
                self.same(trial_text(read_trial(trial_text(trial))), trial_text(trial))
                desk.say("trial mine " + trial_text(trial).replace("\n", " / "))
                self.same(desk.say("seen mine"), [str(trial.seen())])
                told = told_by_all(rule, measure.scores(rule, outcomes))[dealing]
                self.same(desk.say("share mine"), [str(told)])
                self.same(desk.say("spread mine"), [f"{each} {Fraction(*share)}" for each, share in spread_of(rule, measure.scores(rule, outcomes)).items()])
        self.same((NONE, ALL), ((0, 1), (1, 1)))
