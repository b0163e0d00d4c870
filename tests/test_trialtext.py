"""Points 6, 111 and 112: measures and trials as texts."""

from gonethrough import BIG, HALF, NO_NUMBERS, SURE, UNSURE, DealCase, dealt, small_cases
from trialdeal.errors import NoDealing, NoFolk, NoLine, NoOutcome, NoPairs, NoRule, NoText, NotSure, NoWeights
from trialdeal.measures import Measure, Ranks, Signs, Sum, Weighted, Wins
from trialdeal.rules import Blocks, Coins, Pairs, Split
from trialdeal.trials import Trial
from trialdeal.trialtext import measure_in, measure_text, read_trial, trial_text

GOOD = ("deal split 2 of 4", "outcomes 4 1 3 0", "measure sum", "hands 1100")
SIX = ("deal split 1 of 2", "deal pairs 1 by 1/3", "deal coins 2 by 1/2 far 3", "deal split 0 of 1", "deal coins 1 by 99/100 far 20", "deal pairs 2 by 2/5")
BEHIND_SIX = ("outcomes 1 2 3 4 5 6 7 8 9 10 11 12", "measure weighted 1 2 3 0 20 1 of wins", "hands 101011011001")


def text_of(lines):
    return "\n".join(lines)


def changed(number, line):
    return text_of(GOOD[:number] + (line,) + GOOD[number + 1:])


class Measures(DealCase):
    def all_measures(self):
        plain = [(Sum(), "sum"), (Ranks(), "ranks"), (Wins(), "wins"), (Signs(), "signs")]
        weighted = []
        for weights in ([0], [20], [1, 2], [0, 0, 0], [3, 20, 10, 0, 19, 1]):
            for inner, word in plain:
                weighted.append((Weighted(inner, weights), "weighted " + " ".join(str(weight) for weight in weights) + " of " + word))
        return plain + weighted

    def test_there_and_back(self):
        for measure, text in self.all_measures():
            self.same(measure_text(measure), text)
            read = measure_in(text)
            self.assertIsInstance(read, Measure)
            self.assertIs(type(read), type(measure))
            self.same((read.word(), read.told()), (measure.word(), measure.told()))

    def test_they_score_alike(self):
        for rule, outcomes, measure in small_cases():
            self.same(measure_in(measure_text(measure)).scores(rule, outcomes), measure.scores(rule, outcomes))

    def test_what_writes_none(self):
        for thing in [thing for thing in NO_NUMBERS] + [
            0, b"sum", "", " ", "Sum", "SUM", "sum ", " sum", "sum\n", "\nsum", "sums", "sum sum", "su m", "rank", "weighted", "weighted ", "weighted of sum", "weighted  of sum", "weighted 1 of",
            "weighted 1 of ", "weighted 1 sum", "weighted 1 of Sum", "weighted 1 of weighted", "weighted 1 of weighted 1 of sum", "weighted 1 of sum ", " weighted 1 of sum", "weighted 1  of sum",
            "weighted  1 of sum", "weighted 1 of  sum", "weighted 1 2  3 of sum", "weighted 21 of sum", "weighted -1 of sum", "weighted -0 of sum", "weighted 01 of sum", "weighted 00 of sum",
            "weighted 1 020 of sum", "weighted +1 of sum", "weighted 1, 2 of sum", "weighted 1 2 3 4 5 6 7 of sum", "weighted 1 2 3 4 5 6 7 8 of sum", "weighted a of sum", "weighted 1 of of sum",
            "weighted 1\n2 of sum", "Weighted 1 of sum", "weighted 1 OF sum", f"weighted {BIG} of sum", "weighted 1.0 of sum", "weighted 1 of sum of sum", "1 of sum", "sum of 1", "weighted 1/1 of sum",
            "weighted of of sum", "weighted 1 of none",
        ]:
            self.same(measure_in(thing), None)


class Trials(DealCase):
    def same_trial(self, told, wanted):
        self.assertIs(type(told), Trial)
        self.same((told.rule.told(), told.outcomes, told.measure.told(), told.dealing), (wanted.rule.told(), wanted.outcomes, wanted.measure.told(), wanted.dealing))
        self.same((told.seen(), told.spread(), told.share()), (wanted.seen(), wanted.spread(), wanted.share()))

    def test_the_very_lines(self):
        trial = Trial(Split(4, 2), [(4, True), (1, True), (3, True), (0, True)], Sum(), 3)
        self.same(trial_text(trial), text_of(GOOD))
        self.same_trial(read_trial(text_of(GOOD)), trial)
        rule = Blocks([Split(2, 1), Pairs(1, (1, 3)), Coins(2, HALF, 3), Split(1, 0), Coins(1, (99, 100), 20), Pairs(2, (2, 5))])
        trial = Trial(rule, [(at, True) for at in range(1, 13)], Weighted(Wins(), [1, 2, 3, 0, 20, 1]), int("101011011001"[::-1], 2))
        self.same(trial_text(trial), text_of(SIX + BEHIND_SIX))
        self.same_trial(read_trial(text_of(SIX + BEHIND_SIX)), trial)
        trial = Trial(Pairs(2, (1, 3)), UNSURE[:4], Signs(), 6)
        self.same(trial_text(trial), "deal pairs 2 by 1/3\noutcomes 3+ -1 3 0+\nmeasure signs\nhands 0110")

    def test_there_and_back(self):
        for rule, outcomes, measure in small_cases():
            if rule.told()[0] != "first":
                for dealing in list(dealt(rule))[::3]:
                    trial = Trial(rule, outcomes, measure, dealing)
                    text = trial_text(trial)
                    read = read_trial(text)
                    self.same_trial(read, trial)
                    self.same(trial_text(read), text)

    def test_twenty_folk(self):
        trial = Trial(Split(20, 10), [(-99, False), (99, True)] * 10, Wins(), 2 ** 20 - 2 ** 10)
        self.same_trial(read_trial(trial_text(trial)), trial)

    def test_blocks_of_one_rule_are_written_as_it_is(self):
        self.same(trial_text(Trial(Blocks([Split(4, 2)]), [(4, True), (1, True), (3, True), (0, True)], Sum(), 3)), text_of(GOOD))


class Refused(DealCase):
    def line(self, text):
        return self.refused(NoLine, read_trial, text).line

    def test_what_is_no_text(self):
        for thing in [thing for thing in NO_NUMBERS if not isinstance(thing, str)] + [0, list(GOOD), GOOD]:
            self.assertIs(self.refused(NoText, read_trial, thing).found, thing)

    def test_lines_that_lack(self):
        self.same(self.line(""), 0)
        for many in range(1, 4):
            self.same(self.line(text_of(GOOD[:many])), many)
        self.same(self.line(text_of(SIX)), 6)
        self.same(self.line(text_of(SIX + BEHIND_SIX[:1])), 7)
        self.same(self.line(text_of(SIX + BEHIND_SIX[:2])), 8)
        self.same(self.line("deal x"), 1)
        self.same(self.line("deal \ndeal "), 2)
        self.same(self.line("deal x\noutcomes x\nmeasure x"), 3)

    def test_the_first_line_that_begins_otherwise(self):
        for number, word in enumerate(("deal", "outcomes", "measure", "hands")):
            rest = GOOD[number][len(word) + 1:]
            for line in ("", " ", word, f" {word} {rest}", word + rest, f"{word}s {rest}", f"{word[:-1]} {rest}", f"{word.title()} {rest}", f"{word}\n{rest}", rest):
                self.same(self.line(changed(number, line)), number)
        self.same(self.line(text_of(GOOD[1:])), 0)
        self.same(self.line(text_of(GOOD[:1] + GOOD[2:])), 1)
        self.same(self.line(text_of(GOOD[:2] + GOOD[3:])), 2)
        self.same(self.line(text_of((GOOD[0], GOOD[2], GOOD[1], GOOD[3]))), 1)
        self.same(self.line(text_of((GOOD[1],) + GOOD)), 0)
        self.same(self.line(text_of(GOOD[:2] + GOOD[:1] + GOOD[2:])), 2)
        self.same(self.line(text_of(GOOD[:2] + GOOD[1:])), 2)
        self.same(self.line("\n" + text_of(GOOD)), 0)

    def test_seven_lines_of_a_rule(self):
        self.same(self.line(text_of(SIX + SIX[:1] + BEHIND_SIX)), 6)
        self.same(self.line(text_of(("deal ",) * 7)), 6)
        self.same(self.line(text_of(("deal split 1 of 1",) * 8)), 6)

    def test_a_line_behind(self):
        for line in ("", " ", "hands 1100", "deal split 1 of 2", "more"):
            self.same(self.line(text_of(GOOD + (line,))), 4)
            self.same(self.line(text_of(SIX + BEHIND_SIX + (line, line))), 9)

    def test_beginnings_ahead_of_all_else(self):
        self.same(self.line("deal x\noutcomes x\nmeasure x\nhand"), 3)
        self.same(self.line("deal x\noutcomes x\nmeasure x\nhands x\n"), 4)

    def test_rules(self):
        for line in ("deal ", "deal  split 2 of 4", "deal split 2 of 4 ", "deal deal split 2 of 4", "deal split 5 of 4", "deal split 2 of 21", "deal pairs 2 by 2/4", "deal coins 4 by 1/2"):
            self.same(self.refused(NoRule, read_trial, changed(0, line)).line, 0)
        self.same(self.refused(NoRule, read_trial, text_of(("deal split 2 of 4", "deal x") + GOOD[1:])).line, 1)
        self.same(self.refused(NoRule, read_trial, text_of(SIX[:5] + ("deal split 1 of 13",) + BEHIND_SIX)).line, 5)
        self.same(self.refused(NoRule, read_trial, "deal x\noutcomes x\nmeasure x\nhands x").line, 0)

    def test_outcomes(self):
        for line, place in (("outcomes x", 0), ("outcomes  4 1 3 0", 0), ("outcomes 4 1 3 0 ", 4), ("outcomes 4 1  3 0", 2), ("outcomes 4 100 3 0", 1), ("outcomes 4 1 03 0", 2), ("outcomes 1 2 3 4 5 x", 5)):
            self.same(self.refused(NoOutcome, read_trial, text_of((GOOD[0], line, "measure x", "hands x"))).place, place)

    def test_the_measures_line(self):
        for line in ("measure ", "measure x", "measure sum ", "measure  sum", "measure weighted 1 sum", "measure weighted 21 of sum"):
            self.same(self.line(text_of((GOOD[0], "outcomes 4", line, "hands x"))), 2)
        self.same(self.line(text_of(SIX + (BEHIND_SIX[0], "measure x", BEHIND_SIX[2]))), 7)

    def test_the_line_of_the_hands(self):
        for line in ("hands ", "hands x", "hands 110", "hands 11000", "hands 1120", "hands 1100 ", "hands  1100", "hands 3", "hands 11 00"):
            self.same(self.line(text_of((GOOD[0], "outcomes 4+", "measure sum", line))), 3)
        self.same(self.line(text_of(SIX + BEHIND_SIX[:2] + ("hands 1",))), 8)

    def test_as_the_trial_is(self):
        for outcomes, many in (("", 0), ("4", 1), ("4+ 1 3", 3), ("4 1 3 0 0", 5)):
            self.same(self.refused(NoFolk, read_trial, text_of((GOOD[0], "outcomes " + outcomes, "measure signs", "hands 0000"))).found, many)
        self.same(self.refused(NotSure, read_trial, text_of((GOOD[0], "outcomes 4 1+ 3 0+", "measure sum", "hands 0000"))).place, 1)
        self.same(self.refused(NotSure, read_trial, text_of((GOOD[0], "outcomes 4 1 3 0+", "measure weighted 1 of ranks", "hands 0000"))).place, 3)
        self.same(self.refused(NoPairs, read_trial, text_of((GOOD[0], "outcomes 4 1+ 3 0+", "measure signs", "hands 0000"))).block, 0)
        self.same(self.refused(NoPairs, read_trial, text_of(("deal pairs 1 by 1/2", "deal split 1 of 2", "outcomes 4 1+ 3 0+", "measure signs", "hands 0000"))).block, 1)
        self.same(self.refused(NoWeights, read_trial, text_of(("deal pairs 1 by 1/2", "deal split 1 of 2", "outcomes 4 1+ 3 0+", "measure weighted 5 of sum", "hands 0000"))).found, [5])
        self.same(self.refused(NoDealing, read_trial, changed(3, "hands 1000")).found, 1)
        self.same(self.refused(NoDealing, read_trial, changed(3, "hands 1111")).found, 15)

    def test_the_same_again(self):
        self.same(trial_text(read_trial(text_of(GOOD))), trial_text(read_trial(text_of(GOOD))))
        self.same(SURE[:4], [(3, True), (-1, True), (3, True), (0, True)])
