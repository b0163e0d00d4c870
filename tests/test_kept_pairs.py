"""Points 6, 10 and 95 to 97: numbers of folk bettered and worsened that are not ruled out, how they are parted, and the net stretch."""

import time
from fractions import Fraction
from functools import lru_cache
from itertools import combinations, product

from gonethrough import ALL, HALF, NO_NUMBERS, NO_SHARES, NONE, DealCase, levels_beside, pair_of
from trialdeal.betters import fits, kept_pairs, listing_counts, listing_shares, net_stretch, pair_rows, shows_kept
from trialdeal.errors import NoChoice, NoDealing, NoFolk, NoLevel, NoOutcome, NoYes

YES = (1, True)
NO = (0, True)
BETTERED, WORSENED, ALWAYS, NEVER = (1, 0), (0, 1), (1, 1), (0, 0)
LISTED = (BETTERED, WORSENED, ALWAYS, NEVER)
TWENTY = [YES] * 6 + [NO] * 4 + [YES] * 3 + [NO] * 7


def seen(row):
    return [(each, True) for each in row]


def value_under(listing, dealing):
    hands = [dealing >> at & 1 for at in range(len(listing))]
    ones = sum(hands)
    yes_one = sum(listed[0] for listed, hand in zip(listing, hands) if hand)
    yes_zero = sum(listed[1] for listed, hand in zip(listing, hands) if not hand)
    return (len(hands) - ones) * yes_one - ones * yes_zero


@lru_cache(maxsize=None)
def shares_of(listing, dealing):
    """The two shares of a listing, by all dealings with as many in hand 1 gone through."""
    ones = bin(dealing).count("1")
    values = [value_under(listing, sum(1 << at for at in chosen)) for chosen in combinations(range(len(listing)), ones)]
    own = value_under(listing, dealing)
    return (Fraction(sum(each >= own for each in values), len(values)), Fraction(sum(each <= own for each in values), len(values)))


@lru_cache(maxsize=None)
def fitting(row, dealing):
    """All listings that fit, gone through."""
    return [
        listing for listing in product(LISTED, repeat=len(row)) if all(listed[0 if dealing >> at & 1 else 1] == each for at, (listed, each) in enumerate(zip(listing, row)))
    ]


def pair_in(listing):
    return (listing.count(BETTERED), listing.count(WORSENED))


def four_in(listing, row, dealing):
    """How many of those seen with yes and no under either hand are listed otherwise, as point 96 tells it."""
    counts = [0, 0, 0, 0]
    for at, (listed, each) in enumerate(zip(listing, row)):
        hand = dealing >> at & 1
        if hand and each and listed == BETTERED:
            counts[0] += 1
        elif hand and not each and listed == WORSENED:
            counts[1] += 1
        elif not hand and each and listed == WORSENED:
            counts[2] += 1
        elif not hand and not each and listed == BETTERED:
            counts[3] += 1
    return tuple(counts)


def kept_in(row, dealing, level):
    """For each pair all listings that fit and are not ruled out."""
    kept = {pair: [] for pair in sorted({pair_in(listing) for listing in fitting(row, dealing)})}
    for listing in fitting(row, dealing):
        if min(shares_of(listing, dealing)) > level:
            kept[pair_in(listing)].append(list(listing))
    return kept


def some_seen():
    """Tuples (row, dealing): all of few folk, some of more."""
    rows = [(row, dealing) for folk in (1, 2, 3) for row in product((0, 1), repeat=folk) for dealing in range(2 ** folk)]
    rows += [((1, 1, 0, 0), 3), ((1, 0, 1, 0), 6), ((1, 1, 1, 0), 9), ((0, 0, 0, 0), 5), ((1, 1, 1, 1), 14), ((1, 1, 0, 0, 1), 3), ((1, 1, 1, 0, 0, 0), 7), ((1, 0, 1, 1, 0, 0), 11), ((0, 1, 1, 0, 1, 0), 33)]
    return rows


def some_levels(row, dealing):
    shares = sorted({share for listing in fitting(row, dealing) for share in shares_of(listing, dealing)})
    return levels_beside(shares[:4] + shares[4::3])


class Pairs(DealCase):
    def test_all_listings_gone_through(self):
        for row, dealing in some_seen():
            for level in some_levels(row, dealing):
                wanted = kept_in(row, dealing, level)
                told = kept_pairs(seen(row), dealing, pair_of(level))
                self.same(list(told), list(wanted))
                for pair, listing in told.items():
                    if listing is None:
                        self.assertEqual(wanted[pair], [])
                    else:
                        self.assertIn(repr(listing), [repr(each) for each in wanted[pair]])
                self.assertIs(shows_kept(seen(row), dealing, pair_of(level), told), True)
                nets = [pair[0] - pair[1] for pair in wanted if wanted[pair]]
                self.same(net_stretch(seen(row), dealing, pair_of(level)), (min(nets), max(nets)) if nets else None)

    def test_by_hand(self):
        outcomes = [YES, YES, NO, NO]
        told = kept_pairs(outcomes, 3, (1, 6))
        self.same(list(told), [(better, 0) for better in range(5)])
        self.same(told[(0, 0)], None)
        self.same(told[(4, 0)], [BETTERED] * 4)
        self.same(net_stretch(outcomes, 3, (1, 6)), (2, 4))
        self.same(net_stretch(outcomes, 3, NONE), (0, 4))
        self.same(net_stretch(outcomes, 3, ALL), None)
        self.same(kept_pairs(outcomes, 3, ALL), {(better, 0): None for better in range(5)})
        self.same(kept_pairs([NO], 1, HALF), {(0, 0): [NEVER], (0, 1): [WORSENED]})

    def test_twenty_folk(self):
        began = time.process_time()
        for dealing in (2 ** 10 - 1, 0b10101, 2 ** 20 - 1, 0):
            for level in ((1, 20), HALF):
                told = kept_pairs(TWENTY, dealing, level)
                self.assertEqual(list(told), sorted(told))
                for pair, listing in told.items():
                    if listing is not None:
                        self.assertEqual(listing_counts(listing)[:2], pair)
                        self.assertIs(fits(listing, TWENTY, dealing), True)
                        self.assertGreater(min(Fraction(*share) for share in listing_shares(listing, dealing)), Fraction(*level))
                    else:
                        rows = pair_rows(TWENTY, dealing, pair)
                        self.assertTrue(all(min(Fraction(*high), Fraction(*low)) <= Fraction(*level) for four, high, low in rows))
                self.assertIs(shows_kept(TWENTY, dealing, level, told), True)
                kept = [pair[0] - pair[1] for pair in told if told[pair] is not None]
                self.same(net_stretch(TWENTY, dealing, level), (min(kept), max(kept)) if kept else None)
        self.assertLess(time.process_time() - began, 30)


class Shown(DealCase):
    def test_all_right_listings_are_let_by(self):
        for row, dealing in some_seen():
            for level in some_levels(row, dealing)[::2]:
                wanted = kept_in(row, dealing, level)
                told = {pair: listings[0] if listings else None for pair, listings in wanted.items()}
                self.assertIs(shows_kept(seen(row), dealing, pair_of(level), dict(reversed(told.items()))), True)
                for pair, listings in wanted.items():
                    for listing in listings:
                        self.assertIs(shows_kept(seen(row), dealing, pair_of(level), {**told, pair: listing}), True)

    def test_wrong_listings_are_not(self):
        for row, dealing in some_seen()[20::5]:
            for level in some_levels(row, dealing)[::3]:
                wanted = kept_in(row, dealing, level)
                told = {pair: listings[0] if listings else None for pair, listings in wanted.items()}
                for pair, listings in wanted.items():
                    others = [list(listing) for listing in product(LISTED, repeat=len(row))] if len(row) < 4 else [list(listing) for listing in fitting(row, dealing)]
                    for other in [each for each in others if each not in listings]:
                        self.assertIs(shows_kept(seen(row), dealing, pair_of(level), {**told, pair: other}), False)
                    if listings:
                        self.assertIs(shows_kept(seen(row), dealing, pair_of(level), {**told, pair: None}), False)
                        good = listings[0]
                        for other in (tuple(good), good[:-1], good + [NEVER], good + [ALWAYS], [list(each) for each in good], [(bool(one), zero) for one, zero in good], [(one, bool(zero)) for one, zero in good], [], "", 0, {}):
                            self.assertIs(shows_kept(seen(row), dealing, pair_of(level), {**told, pair: other}), False)
                    for other in (0, False, True, "", [], (), {}, "None", [None]):
                        self.assertIs(shows_kept(seen(row), dealing, pair_of(level), {**told, pair: other}), False)

    def test_wrong_keys(self):
        outcomes, dealing, level = [YES, NO, NO, YES], 3, (1, 10)
        told = kept_pairs(outcomes, dealing, level)
        self.assertIs(shows_kept(outcomes, dealing, level, told), True)
        for pair in told:
            self.assertIs(shows_kept(outcomes, dealing, level, {key: told[key] for key in told if key != pair}), False)
        for key in ((3, 0), (0, 3), (-1, 0), (1, 1, 1), (1,), "11", 1, None, (1, "1"), True, ((1, 1), 1)):
            self.assertIs(shows_kept(outcomes, dealing, level, {**told, key: None}), False)
            self.assertIs(shows_kept(outcomes, dealing, level, {**told, key: told[(0, 0)]}), False)
            swapped = {key if pair == (1, 1) else pair: told[pair] for pair in told}
            self.assertIs(shows_kept(outcomes, dealing, level, swapped), False)
        for change in (lambda pair: (bool(pair[0]), pair[1]) if pair[0] < 2 else pair, lambda pair: (pair[0], pair[1] == 1) if pair[1] < 2 else pair, lambda pair: (True, 1) if pair == (1, 1) else pair):
            thing = {change(pair): told[pair] for pair in told}
            self.assertEqual(thing, told)
            self.assertIs(shows_kept(outcomes, dealing, level, thing), False)

    def test_any_other_thing(self):
        outcomes, dealing, level = [YES, NO, NO, YES], 3, (1, 10)
        told = kept_pairs(outcomes, dealing, level)
        for thing in NO_NUMBERS + [0, list(told), list(told.items()), tuple(told), [told], (told,), {0: told}, {}]:
            self.assertIs(shows_kept(outcomes, dealing, level, thing), False)


class Rows(DealCase):
    def test_all_listings_gone_through(self):
        for row, dealing in some_seen():
            wanted = {}
            for listing in fitting(row, dealing):
                high, low = shares_of(listing, dealing)
                wanted.setdefault(pair_in(listing), {}).setdefault(four_in(listing, row, dealing), set()).add((pair_of(high), pair_of(low)))
            for pair, fours in wanted.items():
                self.assertTrue(all(len(shares) == 1 for shares in fours.values()))
                self.same(pair_rows(seen(row), dealing, pair), [(four,) + min(fours[four]) for four in sorted(fours)])

    def test_by_hand(self):
        self.same(pair_rows([YES, YES, NO, NO], 3, (1, 0)), [((0, 0, 0, 1), (1, 6), ALL), ((1, 0, 0, 0), (1, 6), ALL)])
        self.same(pair_rows([YES, YES, NO, NO], 3, (2, 0)), [((0, 0, 0, 2), (1, 6), ALL), ((1, 0, 0, 1), (1, 3), ALL), ((2, 0, 0, 0), (1, 6), ALL)])
        self.same(pair_rows([YES, YES, NO, NO], 3, (0, 0)), [((0, 0, 0, 0), (1, 6), ALL)])

    def test_twenty_folk(self):
        rows = pair_rows(TWENTY, 2 ** 10 - 1, (6, 3))
        self.assertEqual([row[0] for row in rows], sorted(row[0] for row in rows))
        self.assertEqual(len(rows), len({row[0] for row in rows}))
        self.assertTrue(all(four[0] + four[3] == 6 and four[1] + four[2] == 3 for four, high, low in rows))
        self.assertEqual(len(rows), 7 * 4)

    def test_what_is_no_pair(self):
        outcomes = [YES, NO, NO, YES]
        for thing in [thing for thing in NO_NUMBERS if thing != (1, 2)] + [
            0, (3, 0), (0, 3), (-1, 0), (0, -1), [1, 1], (1,), (1, 1, 1), (True, 1), (1, True), (False, 0), (0, False), (True, True), ("1", 1), (None, None), ((1, 1), 1), ([1], [1]), ({}, 1), "11", {1: 1},
        ]:
            self.assertIs(self.refused(NoChoice, pair_rows, outcomes, 3, thing).found, thing)


class Refused(DealCase):
    def calls(self):
        return (kept_pairs, net_stretch, lambda outcomes, dealing, level: shows_kept(outcomes, dealing, level, None), pair_rows)

    def test_in_their_order(self):
        for call in self.calls():
            for thing in (None, (YES,), "1", {}, 7):
                self.assertIs(self.refused(NoFolk, call, thing, None, None).found, thing)
            self.same(self.refused(NoOutcome, call, [(2, True)] * 21 + [7], None, None).place, 21)
            for thing in ([], [YES] * 21, [(2, True)] * 21):
                self.assertIs(self.refused(NoFolk, call, thing, None, None).found, thing)
            for thing, place in (([YES, (2, True)], 1), ([YES, NO, (0, False)], 2), ([(1, False)], 0)):
                self.same(self.refused(NoYes, call, thing, None, None).place, place)
            for thing in NO_NUMBERS + [-1, 4, 5]:
                self.assertIs(self.refused(NoDealing, call, [YES, NO], thing, None).found, thing)

    def test_what_is_no_level(self):
        for call in self.calls()[:3]:
            for thing in NO_SHARES:
                self.assertIs(self.refused(NoLevel, call, [YES, NO], 1, thing).found, thing)


class Kept(DealCase):
    def test_handed_in_and_told(self):
        outcomes = [YES, NO, NO, YES, YES]
        for level in (NONE, (1, 10), ALL):
            told = self.untouched(kept_pairs, outcomes, 7, level)
            self.untouched(shows_kept, outcomes, 7, level, told)
            self.untouched(net_stretch, outcomes, 7, level)
        self.untouched(pair_rows, outcomes, 7, (1, 1))
        told = kept_pairs(outcomes, 7, NONE)
        listings = [id(listing) for listing in told.values()]
        self.assertEqual(len(listings), len(set(listings)))
