"""Dealings as two halves that meet in a state amid the folk.

By other scores all dealings have other values. Instead of each dealing the
beginnings and the endings are valued, of which there are far fewer, and each
beginning is met with all endings at once.
"""

from trialdeal.dealings import ones_of, one_more_dealt
from trialdeal.shares import ALL, common_bottom, share_of


def parts_between(rule, state, start, behind):
    """What a rule deals from a state to the folk from start to ahead of behind: tuples (dealing, share, state)."""
    parts = [(0, ALL, state)]
    for at in range(start, behind):
        parts = one_more_dealt(rule, parts, at)
    return parts


def as_sides(parts, folk, bottom):
    """For each part a tuple (ones, top): who has hand 1 in it, and how many parts of the bottom its share is."""
    return [(ones_of(dealing, folk), share[0] * (bottom // share[1])) for dealing, share, state in parts]


def valued(sides, points):
    """For each side a tuple (value, top)."""
    return [(sum([points[at] for at in ones]), top) for ones, top in sides]


def met_top(begun, ended, value):
    """The tops of all two halves together that come to a value at least; both are tuples (value, top)."""
    endings = sorted(ended, reverse=True)
    whole = 0
    reached = 0
    at = 0
    # As beginnings rise they reach the value with lesser and lesser endings.
    for own, top in sorted(begun):
        while at < len(endings) and own + endings[at][0] >= value:
            reached += endings[at][1]
            at += 1
        whole += top * reached
    return whole


class Halves:
    """All dealings of a rule, as beginnings and endings for each state amid the folk."""

    def __init__(self, rule):
        folk = rule.folk()
        middle = folk // 2
        begun = parts_between(rule, rule.begin(), 0, middle)
        ended = {state: parts_between(rule, state, middle, folk) for dealing, share, state in begun}
        bottom = common_bottom([share for dealing, share, state in begun])
        finer = common_bottom([share for parts in ended.values() for dealing, share, state in parts])
        sides = []
        for state, parts in ended.items():
            mine = [part for part in begun if part[2] == state]
            sides.append((as_sides(mine, folk, bottom), as_sides(parts, folk, finer)))
        self.bottom = bottom * finer
        self.sides = tuple(sides)

    def share_from_value(self, points, value):
        """The share of all dealings whose value by these scores is at least so great."""
        whole = 0
        for begun, ended in self.sides:
            whole += met_top(valued(begun, points), valued(ended, points), value)
        return share_of(whole, self.bottom)
