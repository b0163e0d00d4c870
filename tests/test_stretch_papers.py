"""Point 85: papers for the stretch of shifts that are not ruled out."""

from fractions import Fraction

from gonethrough import ALL, HALF, NO_NUMBERS, NONE, SURE, DealCase, dealt, levels_beside, pair_of
from trialdeal.measures import Signs, Sum
from trialdeal.rules import Blocks, Coins, Pairs, Split
from trialdeal.shifts import shift_shares, shows_stretch, stretch_of, stretch_paper

FAR = [(5, True), (4, True), (1, True), (0, True)]


def some_questions():
    """Tuples (rule, outcomes, measure, dealing)."""
    questions = []
    for rule, measure in (
        (Split(4, 2), Sum()), (Coins(3, (1, 3), 20), Sum()), (Pairs(2, (1, 3)), Sum()), (Pairs(2, (1, 3)), Signs()), (Blocks([Pairs(1, HALF), Pairs(1, (1, 3))]), Signs()), (Split(3, 3), Sum()),
    ):
        questions += [(rule, SURE[:rule.folk()], measure, dealing) for dealing in list(dealt(rule))[::2]]
    return questions


def some_levels(question):
    shares = {Fraction(*share) for shift in (-10000, -9, -4, -3, -1, 0, 1, 3, 4, 7, 10000) for share in shift_shares(*question, shift)}
    return [pair_of(level) for level in levels_beside(shares)]


def rows_of(question, shifts):
    return [(shift,) + shift_shares(*question, shift) for shift in shifts]


class Told(DealCase):
    def test_told_papers(self):
        for question in some_questions():
            for level in some_levels(question):
                paper = stretch_paper(*question, level)
                self.assertIs(type(paper), tuple)
                stretch, rows = paper
                self.same(stretch, stretch_of(*question, level))
                self.assertIs(type(rows), list)
                self.assertIn(len(rows), (1, 2, 3, 4))
                self.same(rows, rows_of(question, [row[0] for row in rows]))
                self.assertIs(shows_stretch(*question, level, paper), True)

    def test_more_rows_in_any_order(self):
        for question in some_questions():
            for level in some_levels(question):
                stretch, rows = stretch_paper(*question, level)
                more = rows_of(question, (10000, -10000, 0, 5, -5, 1))
                for several in (rows[::-1], rows + rows, rows + more, more[::-1] + rows, more[:3] + rows[::-1] + more[3:]):
                    self.assertIs(shows_stretch(*question, level, (stretch, several)), True)

    def test_many_rows(self):
        question = (Split(4, 2), FAR, Sum(), 3)
        self.assertIs(shows_stretch(*question, (1, 6), ((3, 5), rows_of(question, range(-549, 550)))), True)


class NotLetBy(DealCase):
    def test_rows_too_few(self):
        for question in some_questions():
            for level in some_levels(question):
                stretch, rows = stretch_paper(*question, level)
                self.assertIs(shows_stretch(*question, level, (stretch, [])), False)
                if stretch is not None:
                    for at in range(len(rows)):
                        self.assertIs(shows_stretch(*question, level, (stretch, rows[:at] + rows[at + 1:])), False)

    def test_another_stretch(self):
        for question in some_questions():
            for level in some_levels(question)[::4]:
                stretch, rows = stretch_paper(*question, level)
                more = rows + rows_of(question, range(-12, 13)) + rows_of(question, (-10000, -9999, 9999, 10000))
                for least in (None, -10000, -9999, -5, -4, 0, 3, 4, 10000):
                    for greatest in (None, -10000, -4, 0, 1, 4, 5, 9999, 10000):
                        other = (least, greatest)
                        self.assertIs(shows_stretch(*question, level, (other, more)), other == stretch, (question[0].told(), level, other))
                self.assertIs(shows_stretch(*question, level, (None, more)), stretch is None)

    def test_rows_put_otherwise(self):
        for question in some_questions():
            for level in some_levels(question)[::3]:
                stretch, rows = stretch_paper(*question, level)
                for at, (shift, high, low) in enumerate(rows):
                    others = [
                        None, [], (), [shift, high, low], (shift, high), (shift, high, low, low), (shift, list(high), low), (shift, high, list(low)), (str(shift), high, low), (None, high, low),
                        (shift, (high[0] * 2, high[1] * 2), low), (shift, high, (low[0] * 2, low[1] * 2)), (shift, (1, 99), low), (shift, high, (98, 99)), (10001, high, low), (-10001, high, low),
                        (10 ** 29, high, low), ([shift], high, low), ({}, high, low), (shift, None, low), (shift, high, 1), (shift, (high[0], True) if high[1] == 1 else (high[0], 0), low),
                        (shift, high, (True, low[1]) if low[0] == 1 else (low[0] + 1, low[1])), {0: shift, 1: high, 2: low},
                    ]
                    if high != low:
                        others.append((shift, low, high))
                    for other in others:
                        self.assertIs(shows_stretch(*question, level, (stretch, rows[:at] + [other] + rows[at + 1:])), False, other)
                        self.assertIs(shows_stretch(*question, level, (stretch, rows + [other])), False, other)

    def test_truths(self):
        question = (Split(4, 2), [(1, True), (1, True), (0, True), (0, True)], Sum(), 3)
        stretch = stretch_of(*question, (1, 6))
        self.same(stretch, (1, 1))
        rows = rows_of(question, (0, 1, 2))
        self.assertIs(shows_stretch(*question, (1, 6), (stretch, rows)), True)
        for other in ((True, 1), (1, True), (True, True)):
            self.assertIs(shows_stretch(*question, (1, 6), (other, rows)), False)
        self.assertIs(shows_stretch(*question, (1, 6), (stretch, [(False,) + rows[0][1:]] + rows[1:])), False)
        self.assertIs(shows_stretch(*question, (1, 6), (stretch, [rows[0], (True,) + rows[1][1:], rows[2]])), False)
        self.same(rows[0], (0, (1, 6), ALL))
        for other in ((0, (True, 6), ALL), (0, (1, 6), (True, 1)), (0, (1, 6), (1, True)), (0, (1, 6), (True, True))):
            self.assertIs(shows_stretch(*question, (1, 6), (stretch, [other] + rows[1:])), False)

    def test_any_other_thing(self):
        question = (Split(4, 2), FAR, Sum(), 3)
        for level in ((1, 6), HALF, NONE):
            stretch, rows = stretch_paper(*question, level)
            for thing in NO_NUMBERS + [
                0, [stretch, rows], (stretch,), (stretch, rows, rows), (rows, stretch), (stretch, tuple(rows)), {0: stretch, 1: rows}, (stretch, {0: rows}), (stretch, None), (stretch, [rows]),
                (list(stretch) if stretch else [], rows), (stretch, "rows"), ("none", rows), ((), rows), ((1,), rows), ((1, 2, 3), rows), (0, rows), ((3, "5"), rows), (([], {}), rows),
                (True, rows), (False, rows), ({}, rows), ((10 ** 29, 5), rows), ((3, 10001), rows), ((-10001, 5), rows),
            ]:
                self.assertIs(shows_stretch(*question, level, thing), False, repr(thing))


class Forms(DealCase):
    def test_none_by_two_rows(self):
        question = (Split(4, 2), [(5, True), (4, True), (2, True), (0, True)], Sum(), 3)
        highs = {shift: Fraction(*shift_shares(*question, shift)[0]) for shift in range(-3, 10)}
        lows = {shift: Fraction(*shift_shares(*question, shift)[1]) for shift in range(-3, 10)}
        for level in (Fraction(1, 2), Fraction(3, 5), Fraction(5, 6)):
            for one in range(-3, 10):
                for other in range(-3, 10):
                    out = [at for at in (one, other) if highs[at] <= level]
                    low_out = [at for at in (one, other) if lows[at] <= level]
                    wanted = any(least <= most + 1 for most in out for least in low_out)
                    told = shows_stretch(*question, pair_of(level), (None, rows_of(question, (one, other))))
                    self.assertIs(told, wanted, (level, one, other))
        self.same(stretch_of(*question, HALF), None)
        self.assertIs(shows_stretch(*question, HALF, (None, rows_of(question, (3, 4)))), True)
        self.assertIs(shows_stretch(*question, (5, 6), (None, rows_of(question, (4,)))), True)
        self.assertIs(shows_stretch(*question, HALF, (None, rows_of(question, (3, 5)))), False)

    def test_none_by_the_ends(self):
        question = (Split(3, 3), SURE[:3], Sum(), 7)
        for shift in (10000, -10000, 0, 17):
            self.assertIs(shows_stretch(*question, ALL, (None, rows_of(question, (shift,)))), True)
        # With hand 1 for all, dealt with a small share, the high share is small at no shift, the low one at some.
        question = (Coins(1, (1, 10), 20), [(0, True)], Sum(), 1)
        self.same(shift_shares(*question, 10000), (ALL, (1, 10)))
        self.same(shift_shares(*question, -10000), ((1, 10), ALL))
        question = (Coins(1, (1, 10), 20), [(5, True)], Sum(), 0)
        self.same(shift_shares(*question, 10000), (ALL, (9, 10)))
        self.same(stretch_of(*question, (9, 10)), None)
        self.assertIs(shows_stretch(*question, (9, 10), (None, rows_of(question, (-10000,)))), True)
        self.assertIs(shows_stretch(*question, (9, 10), (None, rows_of(question, (10000,)))), False)
        self.assertIs(shows_stretch(*question, (9, 10), (None, rows_of(question, (0,)))), False)
        question = (Coins(1, (1, 10), 20), [(-5, True)], Sum(), 0)
        self.same(shift_shares(*question, 10000), ((9, 10), ALL))
        self.assertIs(shows_stretch(*question, (9, 10), (None, rows_of(question, (10000,)))), True)
        self.assertIs(shows_stretch(*question, (9, 10), (None, rows_of(question, (-10000,)))), False)
        self.assertEqual(len(stretch_paper(*question, (9, 10))[1]), 1)
        self.same(stretch_of(*question, (4, 5)), (None, None))

    def test_both_ends_told(self):
        question = (Split(4, 2), FAR, Sum(), 3)
        self.same(stretch_of(*question, (1, 6)), (3, 5))
        self.assertIs(shows_stretch(*question, (1, 6), ((3, 5), rows_of(question, (2, 3, 5, 6)))), True)
        for shifts in ((2, 3, 5), (2, 3, 6), (2, 5, 6), (3, 5, 6), (2, 3, 4, 6), (1, 3, 5, 6), (2, 3, 5, 7), (-10000, 3, 5, 10000)):
            self.assertIs(shows_stretch(*question, (1, 6), ((3, 5), rows_of(question, shifts))), False)

    def test_open_ends(self):
        question = (Split(4, 2), FAR, Sum(), 3)
        self.assertIs(shows_stretch(*question, (1, 7), ((None, None), rows_of(question, (-10000, 10000)))), True)
        self.assertIs(shows_stretch(*question, (1, 7), ((None, None), rows_of(question, (-10000,)))), False)
        self.assertIs(shows_stretch(*question, (1, 7), ((None, None), rows_of(question, (10000,)))), False)
        self.assertIs(shows_stretch(*question, (1, 7), ((None, None), rows_of(question, (-9999, 10000)))), False)
        self.assertIs(shows_stretch(*question, (1, 7), ((None, None), rows_of(question, (-10000, 9999)))), False)
        self.assertIs(shows_stretch(*question, (1, 7), ((-10000, 10000), rows_of(question, (-10000, -9999, 9999, 10000)))), False)
