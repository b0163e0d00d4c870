"""Points 6, 9 and 71 to 74: several questions settled together, sets of them, and papers."""

import time
from fractions import Fraction
from itertools import product

from gonethrough import ALL, ALIKE, BIG, HALF, NO_NUMBERS, NO_SHARES, NONE, SURE, UNSURE, DealCase, dealt, levels_beside, never_dealt, pair_of, small_rules, takes_signs, told_by_all
from trialdeal.errors import NoChoice, NoDealing, NoFolk, NoLevel, NoOutcome, NoPairs, NoQuestions, NotSure, NoWeights, TooMany
from trialdeal.measures import Ranks, Signs, Sum, Weighted, Wins
from trialdeal.questions import Questions
from trialdeal.rules import Blocks, Coins, First, Pairs, Split
from trialdeal.toldshare import told_share

YES = (1, True)
MAYBE = (1, False)
FIVE_THOUSAND = Blocks([Split(5, 2), Split(5, 3), Split(5, 2), Split(5, 1)])
FIVE_THOUSAND_FIVE = Blocks([Split(14, 4), Split(5, 1)])


def turned(outcomes, by):
    return outcomes[by:] + outcomes[:by]


def some_rows(folk, outcomes, many):
    """Rows of questions, the third one like the first one."""
    rows = [turned(outcomes[:folk], 0), turned(outcomes[:folk], 1), turned(outcomes[:folk], 0), outcomes[:folk][::-1], ALIKE[:folk], turned(outcomes[:folk], 2)]
    return [list(row) for row in rows[:many]]


def some_cases():
    """Tuples (rule, rows, measure)."""
    cases = []
    for at, rule in enumerate(small_rules()):
        measures = [(Sum(), SURE), (Wins(), UNSURE), (Weighted(Ranks(), [1, 3]), SURE)]
        if takes_signs(rule):
            measures.append((Signs(), UNSURE))
        for measure, outcomes in measures:
            cases.append((rule, some_rows(rule.folk(), outcomes, at % 3 + 1), measure))
    for rule in (Split(4, 2), Coins(4, (1, 3), 2), Pairs(2, (1, 3))):
        for many in range(1, 7):
            cases.append((rule, some_rows(rule.folk(), SURE, many), Ranks()))
    return cases


def set_shares(rule, rows, measure):
    """The share of each set at each dealing, by all dealings gone through."""
    shares = dealt(rule)
    tolds = [told_by_all(rule, measure.scores(rule, row)) for row in rows]
    wanted = {}
    for several in range(1, 2 ** len(rows)):
        least = {dealing: min(told[dealing] for at, told in enumerate(tolds) if several >> at & 1) for dealing in shares}
        for dealing in shares:
            wanted[several, dealing] = sum(shares[other] for other in shares if least[other] <= least[dealing])
    return wanted


def wanted_paper(rows, shares, dealing, level):
    paper = {}
    for question in range(len(rows)):
        held = {several: shares[several, dealing] for several in range(1, 2 ** len(rows)) if several >> question & 1}
        out = [several for several in sorted(held) if held[several] > level]
        if out:
            paper[question] = ("not", out[0], pair_of(held[out[0]]))
        else:
            paper[question] = ("called", {several: pair_of(held[several]) for several in sorted(held)})
    return paper


class Sets(DealCase):
    def test_all_dealings_gone_through(self):
        for rule, rows, measure in some_cases():
            questions = Questions(rule, rows, measure)
            for (several, dealing), share in set_shares(rule, rows, measure).items():
                self.same(questions.set_share(several, dealing), pair_of(share))

    def test_one_question_has_its_told_share(self):
        for rule, rows, measure in some_cases():
            questions = Questions(rule, rows, measure)
            for dealing in dealt(rule):
                for question, row in enumerate(rows):
                    self.same(questions.set_share(1 << question, dealing), told_share(rule, row, measure, dealing))

    def test_by_hand(self):
        questions = Questions(Split(4, 1), [[(4, True), (3, True), (2, True), (1, True)], [(1, True), (2, True), (3, True), (4, True)]], Sum())
        self.same([questions.set_share(1, dealing) for dealing in (1, 2, 4, 8)], [(1, 4), HALF, (3, 4), ALL])
        self.same([questions.set_share(2, dealing) for dealing in (1, 2, 4, 8)], [ALL, (3, 4), HALF, (1, 4)])
        self.same([questions.set_share(3, dealing) for dealing in (1, 2, 4, 8)], [HALF, ALL, ALL, HALF])

    def test_refused(self):
        for many in (1, 2, 6):
            questions = Questions(Split(4, 2), some_rows(4, SURE, many), Sum())
            for dealing in (3, 0, None, "3"):
                for thing in NO_NUMBERS + [0, -1, 2 ** many, 2 ** many + 1]:
                    self.assertIs(self.refused(NoChoice, questions.set_share, thing, dealing).found, thing)
            for thing in NO_NUMBERS + [-1] + never_dealt(Split(4, 2)):
                self.assertIs(self.refused(NoDealing, questions.set_share, 1, thing).found, thing)
                self.assertIs(self.refused(NoDealing, questions.set_share, 2 ** many - 1, thing).found, thing)


class Made(DealCase):
    def test_what_are_no_questions(self):
        row = SURE[:4]
        for thing in NO_NUMBERS + [0, (row,), (row, row), {0: row}, [row] * 7, [row] * 8, [None] * 7, [row] * 1100]:
            if not isinstance(thing, list) or not 1 <= len(thing) <= 6:
                for rule in (Split(4, 2), Split(20, 10)):
                    self.assertIs(self.refused(NoQuestions, Questions, rule, thing, Sum()).found, thing)

    def test_one_to_six_rows_let_by(self):
        for many in range(1, 7):
            self.assertEqual(len(Questions(Split(4, 2), [SURE[:4]] * many, Sum()).paper(3, HALF)), many)

    def test_what_the_measure_refuses_of_the_first_bad_row(self):
        good = SURE[:4]
        for rows, refusal, field, wanted in (
            ([good, None, [MAYBE] * 4], NoFolk, "found", None), ([good, (YES,) * 4], NoFolk, "found", (YES,) * 4), ([good, [YES, YES, 7, 7]], NoOutcome, "place", 2),
            ([good, [YES] * 3, None], NoFolk, "found", 3), ([good, good, [YES] * 5], NoFolk, "found", 5), ([[YES, MAYBE, MAYBE, YES], None], NotSure, "place", 1),
            ([good, good, good, [YES, YES, YES, MAYBE]], NotSure, "place", 3), ([[MAYBE] * 4, [YES] * 3], NotSure, "place", 0), ([[YES] * 3, [MAYBE] * 4], NoFolk, "found", 3), ([[]], NoFolk, "found", 0),
        ):
            self.same(getattr(self.refused(refusal, Questions, Split(4, 2), rows, Sum()), field), wanted)
        self.same(self.refused(NoPairs, Questions, Blocks([Pairs(1, HALF), Split(2, 1)]), [good], Signs()).block, 1)
        self.same(self.refused(NoWeights, Questions, Blocks([Pairs(1, HALF), Split(2, 1)]), [good], Weighted(Sum(), [4])).found, [4])

    def test_too_many(self):
        for rule in (FIVE_THOUSAND_FIVE, Split(20, 10), Coins(13, HALF, 20)):
            self.same(self.refused(TooMany, Questions, rule, [[YES] * rule.folk()], Sum()).many, 5001)
            self.same(self.refused(NotSure, Questions, rule, [[MAYBE] * rule.folk()], Sum()).place, 0)
        began = time.process_time()
        outcomes = [((7 * at * at + 3 * at) % 41 - 20, True) for at in range(20)]
        questions = Questions(FIVE_THOUSAND, [turned(outcomes, by) for by in range(6)], Sum())
        dealing = 0b00001_00011_00111_00011
        paper = questions.paper(dealing, (1, 4))
        self.assertEqual(len(paper), 6)
        self.assertIs(questions.shows_paper(dealing, (1, 4), paper), True)
        self.same(questions.set_share(1, dealing), told_share(FIVE_THOUSAND, outcomes, Sum(), dealing))
        self.assertLess(time.process_time() - began, 20)

    def test_no_folk(self):
        questions = Questions(First(Split(4, 2), 0), [[], []], Sum())
        self.same(questions.set_share(3, 0), ALL)
        self.same(questions.called(0, ALL), [0, 1])
        self.same(questions.called(0, HALF), [])


class Papers(DealCase):
    def test_all_dealings_gone_through(self):
        for rule, rows, measure in some_cases():
            questions = Questions(rule, rows, measure)
            shares = set_shares(rule, rows, measure)
            for dealing in list(dealt(rule))[::2]:
                levels = levels_beside([share for (several, other), share in shares.items() if other == dealing])
                for level in levels[:10] + levels[10::7]:
                    paper = wanted_paper(rows, shares, dealing, level)
                    self.same(questions.paper(dealing, pair_of(level)), paper)
                    self.same(questions.called(dealing, pair_of(level)), [question for question in paper if paper[question][0] == "called"])
                    self.assertIs(questions.shows_paper(dealing, pair_of(level), paper), True)

    def test_none_and_all(self):
        questions = Questions(Split(4, 2), some_rows(4, SURE, 3), Sum())
        for dealing in dealt(Split(4, 2)):
            self.same(questions.called(dealing, NONE), [])
            self.same(questions.called(dealing, ALL), [0, 1, 2])

    def test_by_hand(self):
        questions = Questions(Split(4, 1), [[(4, True), (3, True), (2, True), (1, True)], [(1, True), (2, True), (3, True), (4, True)]], Sum())
        self.same(questions.paper(1, HALF), {0: ("called", {1: (1, 4), 3: HALF}), 1: ("not", 2, ALL)})
        self.same(questions.paper(1, (1, 4)), {0: ("not", 3, HALF), 1: ("not", 2, ALL)})
        self.same(questions.paper(1, (1, 5)), {0: ("not", 1, (1, 4)), 1: ("not", 2, ALL)})
        self.same(questions.called(1, HALF), [0])
        self.same(questions.called(8, HALF), [1])

    def test_papers_in_any_order(self):
        questions = Questions(Split(5, 2), some_rows(5, SURE, 4), Sum())
        shares = set_shares(Split(5, 2), some_rows(5, SURE, 4), Sum())
        for dealing, level in product(dealt(Split(5, 2)), ((1, 10), HALF, ALL)):
            paper = wanted_paper([0] * 4, shares, dealing, Fraction(*level))
            turned_paper = {}
            for question in reversed(paper):
                row = paper[question]
                turned_paper[question] = row if row[0] == "not" else ("called", dict(reversed(row[1].items())))
            self.assertIs(questions.shows_paper(dealing, level, turned_paper), True)

    def test_other_papers(self):
        rows = some_rows(4, SURE, 2)
        questions = Questions(Split(4, 2), rows, Sum())
        shares = set_shares(Split(4, 2), rows, Sum())
        for dealing, level in product(dealt(Split(4, 2)), (NONE, (1, 3), HALF, ALL)):
            paper = wanted_paper(rows, shares, dealing, Fraction(*level))

            def shows(thing):
                return questions.shows_paper(dealing, level, thing)

            self.assertIs(shows(paper), True)
            for thing in NO_NUMBERS + [0, list(paper.items()), tuple(paper), [paper], (paper,), {**paper, 2: paper[0]}, {0: paper[0]}, {1: paper[1]}, {**paper, "0": paper[0]}]:
                self.assertIs(shows(thing), False)
            self.assertIs(shows({False: paper[0], 1: paper[1]}), False)
            self.assertIs(shows({0: paper[0], True: paper[1]}), False)
            for question in paper:
                for other in self.other_rows(paper[question]):
                    self.assertIs(shows({**paper, question: other}), False, repr(other))

    def other_rows(self, row):
        others = [None, list(row), row + (1,), row[:-1], (), {}, ("",) + row[1:], ("called", {}), (row,)]
        if row[0] == "called":
            first = min(row[1])
            share = row[1][first]
            others += [("not",) + row[1:], ("called", list(row[1].items())), ("called", {**row[1], first: (share[0] * 2, share[1] * 2)}), ("called", {**row[1], first: list(share)})]
            others += [("called", {**row[1], 0: share}), ("called", {**row[1], first: (1, 999)}), ("called", {several: row[1][several] for several in row[1] if several != first})]
            if first == 1:
                others.append(("called", {True if several == 1 else several: row[1][several] for several in row[1]}))
            if 1 in share:
                others.append(("called", {**row[1], first: tuple(True if part == 1 else part for part in share)}))
        else:
            share = row[2]
            others += [("called",) + row[1:], ("not", row[1] + 1, share), ("not", 0, share), ("not", row[1], list(share)), ("not", row[1], (share[0] * 3, share[1] * 3)), ("not", row[1], (1, 999))]
            if row[1] == 1:
                others.append(("not", True, share))
            if 1 in share:
                others.append(("not", row[1], tuple(True if part == 1 else part for part in share)))
        return others

    def test_refused(self):
        questions = Questions(Split(4, 2), some_rows(4, SURE, 3), Sum())
        for call in (questions.called, questions.paper, lambda dealing, level: questions.shows_paper(dealing, level, None)):
            for thing in NO_NUMBERS + [-1] + never_dealt(Split(4, 2)):
                for level in (HALF, None, (2, 4)):
                    self.assertIs(self.refused(NoDealing, call, thing, level).found, thing)
            for thing in NO_SHARES:
                self.assertIs(self.refused(NoLevel, call, 3, thing).found, thing)
        for thing in NO_NUMBERS:
            self.assertIs(self.refused(NoDealing, questions.shows_paper, 0, HALF, thing).found, 0)
            self.assertIs(self.refused(NoLevel, questions.shows_paper, 3, None, thing).found, None)

    def test_a_level_of_many_figures(self):
        questions = Questions(Split(4, 2), some_rows(4, SURE, 2), Sum())
        self.same(questions.called(5, (10 ** 999 - 1, 10 ** 999)), questions.called(5, (BIG - 1, BIG)))


class Kept(DealCase):
    def test_rows_changed_behind(self):
        rows = some_rows(5, SURE, 3)
        questions = Questions(Split(5, 2), rows, Sum())
        other = Questions(Split(5, 2), some_rows(5, SURE, 3), Sum())
        rows[0][0] = (99, True)
        rows[1].clear()
        rows.pop()
        for dealing in dealt(Split(5, 2)):
            self.same(questions.paper(dealing, HALF), other.paper(dealing, HALF))
            for several in range(1, 8):
                self.same(questions.set_share(several, dealing), other.set_share(several, dealing))

    def test_what_is_told_may_be_changed(self):
        rows = some_rows(5, SURE, 3)
        questions = Questions(Split(5, 2), rows, Sum())
        for level in (NONE, HALF, ALL):
            for dealing in dealt(Split(5, 2)):
                self.untouched(questions.paper, dealing, level)
                self.untouched(questions.called, dealing, level)
        paper = questions.paper(3, ALL)
        paper[0][1].clear()
        self.assertEqual(len(paper[1][1]), 4)
        self.untouched(questions.shows_paper, 3, ALL, questions.paper(3, ALL))
        self.same(rows, some_rows(5, SURE, 3))


class TheWhole(DealCase):
    def test_too_much_is_called_in_no_more_than_the_level(self):
        """Whatever dealing is dealt does to the outcomes of the other questions."""
        rule = Coins(4, (1, 3), 3)
        same_row = [(3, True), (0, True), (2, True), (2, True)]
        other = [(1, True), (5, True), (0, True), (1, True)]
        for level in (Fraction(1, 10), Fraction(1, 4), Fraction(1, 2)):
            whole = Fraction(0)
            for dealing, share in dealt(rule).items():
                changed = [(number + (9 if dealing >> at & 1 else 0), True) for at, (number, sure) in enumerate(other)]
                questions = Questions(rule, [same_row, changed, same_row[::-1]], Sum())
                called = questions.called(dealing, pair_of(level))
                whole += share if 0 in called or 2 in called else 0
            self.assertLessEqual(whole, level)
