"""What the tests have in common: all dealings of a rule gone through step by step, and things of wrong kinds."""

import copy
import unittest
from fractions import Fraction

from trialdeal.errors import DealError
from trialdeal.measures import Ranks, Signs, Sum, Weighted, Wins
from trialdeal.rules import Blocks, Coins, First, Pairs, Split

HALF = (1, 2)
NONE = (0, 1)
ALL = (1, 1)
BIG = 10 ** 30 - 1
NO_NUMBERS = [
    None, True, False, "", "0", "1", "-1", [], [0], [1], (), (0,), (1, 2), {}, {0: 1}, {"a": [1]}, Split(2, 1), Sum(), DealError("1"), BIG, -BIG, [(1, 2)], ([1], {}), [[[]]],
]
NO_SHARES = [
    None, True, False, 0, 1, 2, -1, "", "0", "1", "1/2", [], [1, 2], [0, 1], (), (1,), (1, 2, 3), (2, 4), (0, 2), (2, 2), (3, 2), (-1, 2), (1, -2), (-1, -2), (1, 0), (0, 0),
    (True, 2), (1, True), (True, True), (False, True), (False, 1), ("1", "2"), (None, 1), ((1, 2), 2), {}, {1: 2}, Split(2, 1), Sum(), DealError("1"), [(1, 2)], (BIG, 1), ([1], [2]),
]
NO_DEALINGS = [thing for thing in NO_NUMBERS] + [-1, -2, (1, 2)]
SURE = [(3, True), (-1, True), (3, True), (0, True), (7, True), (-1, True), (2, True), (9, True)]
UNSURE = [(3, False), (-1, True), (3, True), (0, False), (7, True), (7, False), (2, True), (-5, True)]
ALIKE = [(5, True)] * 8


def pair_of(fraction):
    return (fraction.numerator, fraction.denominator)


KNOWN = {}


def dealt(rule):
    """A dict from each dealing of a rule to its share, a Fraction, rising; gone through once for each rule."""
    if rule.told() not in KNOWN:
        KNOWN[rule.told()] = go_through(rule)
    return KNOWN[rule.told()]


def go_through(rule):
    beginnings = [(0, Fraction(1), rule.begin())]
    for at in range(rule.folk()):
        beginnings = [
            (dealing + (hand << at), share * Fraction(*part), behind) for dealing, share, state in beginnings for hand, part, behind in rule.steps(state, at)
        ]
    return {dealing: share for dealing, share, state in sorted(beginnings, key=lambda row: row[0])}


def value(scores, dealing):
    return sum(score for at, score in enumerate(scores) if dealing >> at & 1)


def never_dealt(rule):
    """Whole numbers that are no dealing of a rule."""
    shares = dealt(rule)
    return [dealing for dealing in range(2 ** rule.folk() + 2) if dealing not in shares]


def told_by_all(rule, scores):
    """The told share of each dealing by these scores."""
    shares = dealt(rule)
    values = {dealing: value(scores, dealing) for dealing in shares}
    return {dealing: sum(shares[other] for other in shares if values[other] >= values[dealing]) for dealing in shares}


def small_rules():
    return [
        Split(1, 1), Split(4, 2), Split(5, 2), Coins(4, (1, 3), 2), Coins(5, HALF, 20), Pairs(2, (1, 3)), Pairs(3, HALF), Blocks([Split(3, 1), Pairs(2, (2, 5))]),
        Blocks([Pairs(1, HALF), Pairs(2, (1, 3))]), First(Split(6, 3), 4), First(Blocks([Split(3, 1), Coins(4, HALF, 1)]), 5), First(Pairs(3, HALF), 4),
    ]


def takes_signs(rule):
    words = repr(rule.told())
    return "split" not in words and "coins" not in words and all(len(block) % 2 == 0 for block in rule.blocks())


def small_cases():
    """Tuples (rule, outcomes, measure) of all sorts."""
    cases = []
    for rule in small_rules():
        folk = rule.folk()
        for measure in (Sum(), Ranks(), Wins(), Weighted(Sum(), [2, 0]), Weighted(Ranks(), [1, 3]), Weighted(Wins(), [3, 1, 1])):
            cases.append((rule, SURE[:folk], measure))
        cases += [(rule, ALIKE[:folk], Sum()), (rule, UNSURE[:folk], Wins()), (rule, UNSURE[:folk], Weighted(Wins(), [1, 2]))]
        if takes_signs(rule):
            cases += [(rule, SURE[:folk], Signs()), (rule, UNSURE[:folk], Signs()), (rule, UNSURE[:folk], Weighted(Signs(), [1, 2]))]
    return cases


def levels_beside(shares):
    """None, all, each of these shares, and a little below and above it."""
    levels = {Fraction(0), Fraction(1)}
    little = Fraction(1, 10 ** 40)
    for share in shares:
        levels.update(level for level in (share, share - little, share + little) if 0 <= level <= 1)
    return sorted(levels)


class DealCase(unittest.TestCase):
    def same(self, told, wanted):
        self.assertEqual(repr(told), repr(wanted))

    def refused(self, refusal, call, *things):
        """The refusal of a call, whose things must stay as they were."""
        kept = repr(things)
        with self.assertRaises(DealError) as caught:
            call(*things)
        self.assertIs(type(caught.exception), refusal, repr(things)[:200])
        self.assertEqual(repr(things), kept)
        return caught.exception

    def untouched(self, call, *things):
        """What a call tells, the same again whatever is done to what it told before, its things as they were."""
        kept = repr(things)
        told = call(*things)
        wanted = copy.deepcopy(told)
        spoil(told)
        self.same(call(*things), wanted)
        self.assertEqual(repr(things), kept)
        return wanted


def spoil(thing):
    """Change all lists and dicts within a thing."""
    if isinstance(thing, (list, tuple)):
        for each in thing:
            spoil(each)
    if isinstance(thing, dict):
        for each in thing.values():
            spoil(each)
        thing.clear()
        thing["spoiled"] = True
    if isinstance(thing, list):
        thing.append("spoiled")
