"""Points 6 and 91 to 94: yes and no, listings, their counts, spreads by counts, and the two shares of a listing."""

from fractions import Fraction
from itertools import combinations, product
from math import comb

from gonethrough import BIG, NO_NUMBERS, DealCase, pair_of
from trialdeal.betters import counts_spread, fits, listing_counts, listing_shares, yes_row
from trialdeal.errors import NoDealing, NoFolk, NoListing, NoNumber, NoOutcome, NoYes
from trialdeal.rules import Split

YES = (1, True)
NO = (0, True)
BETTERED, WORSENED, ALWAYS, NEVER = (1, 0), (0, 1), (1, 1), (0, 0)
NO_LISTINGS = [thing for thing in NO_NUMBERS] + [
    0, 1, (BETTERED,), (BETTERED, NEVER), {0: BETTERED}, [BETTERED] * 21, [BETTERED] * 22, [NEVER] * 1100, [None], [BETTERED, None], [[1, 0]], [BETTERED, [1, 0]], [(1,)], [(1, 0, 0)], [()],
    [(2, 0)], [(0, 2)], [(-1, 0)], [(0, -1)], [(True, 0)], [(0, True)], [(False, 0)], [(1, False)], [(True, False)], [("1", "0")], [(None, 0)], [1], [0], ["10"], [{1: 0}], [(BIG, 0)],
    [BETTERED] * 19 + [(1, True)], [((1, 0), (0, 1))], [(1, [0])], [({}, 0)],
]
LISTED = (BETTERED, WORSENED, ALWAYS, NEVER)


def listing_of(counts):
    return [each for each, many in zip(LISTED, counts) for at in range(many)]


def value_under(listing, dealing):
    """The value of a dealing under a listing, as point 93 tells it."""
    hands = [dealing >> at & 1 for at in range(len(listing))]
    ones = sum(hands)
    yes_one = sum(listed[0] for listed, hand in zip(listing, hands) if hand)
    yes_zero = sum(listed[1] for listed, hand in zip(listing, hands) if not hand)
    return (len(hands) - ones) * yes_one - ones * yes_zero


def dealings_of(folk, ones):
    return [sum(1 << at for at in chosen) for chosen in combinations(range(folk), ones)]


def wanted_spread(ones, counts):
    listing = listing_of(counts)
    values = [value_under(listing, dealing) for dealing in dealings_of(len(listing), ones)]
    return {value: pair_of(Fraction(values.count(value), len(values))) for value in sorted(set(values))}


def wanted_shares(listing, dealing):
    values = [value_under(listing, other) for other in dealings_of(len(listing), bin(dealing).count("1"))]
    seen = value_under(listing, dealing)
    return tuple(pair_of(Fraction(len(several), len(values))) for several in ([value for value in values if value >= seen], [value for value in values if value <= seen]))


class Rows(DealCase):
    def test_ordinary(self):
        self.same(yes_row([YES]), [1])
        self.same(yes_row([NO]), [0])
        self.same(yes_row([YES, NO, NO, YES]), [1, 0, 0, 1])
        self.same(yes_row([YES, NO] * 10), [1, 0] * 10)

    def test_refused_in_their_order(self):
        for thing in (None, True, 0, "1", (), (YES,), {}, {0: YES}, Split(2, 1)):
            self.assertIs(self.refused(NoFolk, yes_row, thing).found, thing)
        for thing, place in (([None], 0), ([(2, True), (1, False), None], 2), ([YES, (True, True)], 1), ([YES, (1, 1)], 1), ([YES, [1, True]], 1), ([YES] * 21 + [7], 21), ([(100, True)], 0)):
            self.same(self.refused(NoOutcome, yes_row, thing).place, place)
        for thing in ([], [YES] * 21, [(2, True)] * 22, [YES] * 1100):
            self.assertIs(self.refused(NoFolk, yes_row, thing).found, thing)
        for thing, place in (
            ([(2, True)], 0), ([YES, (-1, True)], 1), ([YES, NO, (1, False)], 2), ([YES, (0, False), (2, True)], 1), ([YES] * 19 + [(99, True)], 19), ([(0, False)], 0), ([(-99, True)], 0),
        ):
            self.same(self.refused(NoYes, yes_row, thing).place, place)


class Counts(DealCase):
    def test_ordinary(self):
        self.same(listing_counts([BETTERED]), (1, 0, 0, 0))
        self.same(listing_counts([WORSENED, NEVER, NEVER]), (0, 1, 0, 2))
        self.same(listing_counts([ALWAYS, BETTERED, NEVER, ALWAYS, WORSENED]), (1, 1, 2, 1))
        self.same(listing_counts([ALWAYS] * 20), (0, 0, 20, 0))

    def test_what_is_no_listing(self):
        for thing in NO_LISTINGS:
            self.assertIs(self.refused(NoListing, listing_counts, thing).found, thing)

    def test_small_listings_fit(self):
        for folk in (1, 2, 3):
            for listing in product(LISTED, repeat=folk):
                for row in product((0, 1), repeat=folk):
                    for dealing in range(2 ** folk):
                        wanted = all(listed[0 if dealing >> at & 1 else 1] == seen for at, (listed, seen) in enumerate(zip(listing, row)))
                        self.assertIs(fits(list(listing), [(seen, True) for seen in row], dealing), wanted)

    def test_twenty_folk_fit(self):
        listing = [BETTERED, WORSENED, ALWAYS, NEVER] * 5
        outcomes = [YES, NO, YES, NO] * 5
        self.assertIs(fits(listing, outcomes, 2 ** 20 - 1), True)
        self.assertIs(fits(listing, outcomes, 2 ** 20 - 2), False)
        self.assertIs(fits(listing, [NO] + outcomes[1:], 2 ** 20 - 2), True)
        self.assertIs(fits(listing, outcomes[:19] + [YES], 2 ** 20 - 1), False)

    def test_refused_in_their_order(self):
        for thing in NO_LISTINGS:
            self.assertIs(self.refused(NoListing, fits, thing, None, None).found, thing)
        good = [BETTERED, NEVER]
        for thing in (None, (YES, NO), [], [YES] * 21):
            self.assertIs(self.refused(NoFolk, fits, good, thing, None).found, thing)
        self.same(self.refused(NoOutcome, fits, good, [(2, True), 7, 7], None).place, 1)
        self.same(self.refused(NoYes, fits, good, [YES, NO, (2, True)], None).place, 2)
        for thing in NO_NUMBERS + [-1, 4, 5]:
            self.assertIs(self.refused(NoDealing, fits, good, [YES, NO], thing).found, thing)
        for outcomes, dealing in (([YES], 2), ([YES, NO, NO], 8), ([YES] * 20, 2 ** 20)):
            self.same(self.refused(NoDealing, fits, good, outcomes, dealing).found, dealing)
        for outcomes, dealing in (([YES], 1), ([YES, NO, NO], 7), ([YES] * 20, 2 ** 20 - 1)):
            self.assertIs(self.refused(NoListing, fits, good, outcomes, dealing).found, good)


class Spreads(DealCase):
    def test_all_dealings_gone_through(self):
        for counts in product(range(4), repeat=4):
            for ones in range(sum(counts) + 1):
                if 1 <= sum(counts) <= 6:
                    self.same(counts_spread(ones, counts), wanted_spread(ones, counts))

    def test_by_hand(self):
        self.same(counts_spread(1, (1, 0, 0, 1)), {0: (1, 2), 1: (1, 2)})
        self.same(counts_spread(1, (0, 1, 0, 1)), {-1: (1, 2), 0: (1, 2)})
        self.same(counts_spread(2, (0, 0, 2, 2)), {-4: (1, 6), 0: (2, 3), 4: (1, 6)})

    def test_none_and_all_in_hand_1(self):
        for counts in ((1, 0, 0, 0), (5, 5, 5, 5), (0, 0, 20, 0), (3, 0, 2, 1), (0, 20, 0, 0)):
            self.same(counts_spread(0, counts), {0: (1, 1)})
            self.same(counts_spread(sum(counts), counts), {0: (1, 1)})

    def test_twenty_folk(self):
        spread = counts_spread(10, (0, 0, 10, 10))
        self.same(spread, {20 * at - 100: pair_of(Fraction(comb(10, at) ** 2, comb(20, 10))) for at in range(11)})
        self.same(counts_spread(10, (20, 0, 0, 0)), {100: (1, 1)})
        for ones, counts in ((10, (5, 5, 5, 5)), (3, (4, 9, 2, 5)), (19, (1, 2, 3, 14)), (4, (17, 1, 1, 1))):
            spread = counts_spread(ones, counts)
            self.assertEqual(list(spread), sorted(spread))
            self.assertEqual(sum(Fraction(*share) for share in spread.values()), 1)
        self.same(counts_spread(4, (5, 5, 5, 5)), wanted_spread(4, (5, 5, 5, 5)))
        self.same(counts_spread(17, (2, 7, 1, 10)), wanted_spread(17, (2, 7, 1, 10)))

    def test_refused(self):
        for thing in NO_NUMBERS + [
            0, (), (1, 1, 1), (1, 1, 1, 1, 1), [1, 1, 1, 1], (0, 0, 0, 0), (21, 0, 0, 0), (10, 10, 1, 0), (-1, 1, 1, 1), (1, 1, 1, -1), (True, 0, 0, 0), (0, 0, 0, True), (1, False, 0, 0), ("1", 0, 0, 0),
            (1, None, 0, 0), (25, -5, 0, 0), (BIG, 0, 0, 0), (BIG, -BIG, 1, 1), ([], 1, 1, 1), {0: 1, 1: 1, 2: 1, 3: 1},
        ]:
            for ones in (0, 1, None, 99):
                self.assertIs(self.refused(NoListing, counts_spread, ones, thing).found, thing)
        for thing in NO_NUMBERS + [-1, 5, 6, 20]:
            self.assertIs(self.refused(NoNumber, counts_spread, thing, (1, 1, 1, 1)).found, thing)

    def test_what_is_told_may_be_changed(self):
        self.untouched(counts_spread, 2, (1, 1, 1, 1))


class Shares(DealCase):
    def test_all_dealings_gone_through(self):
        for folk in (1, 2, 3, 4):
            for listing in product(LISTED, repeat=folk):
                for dealing in range(2 ** folk):
                    self.same(listing_shares(list(listing), dealing), wanted_shares(listing, dealing))

    def test_some_of_seven(self):
        for at in range(60):
            listing = [LISTED[(at * 7 + place * place * 5 + place * at) % 4] for place in range(7)]
            dealing = (at * 37 + 11) % 128
            self.same(listing_shares(listing, dealing), wanted_shares(listing, dealing))

    def test_twenty_folk(self):
        self.same(listing_shares([ALWAYS] * 10 + [NEVER] * 10, 2 ** 10 - 1), ((1, 184756), (1, 1)))
        self.same(listing_shares([ALWAYS] * 10 + [NEVER] * 10, 2 ** 20 - 2 ** 10), ((1, 1), (1, 184756)))
        self.same(listing_shares([BETTERED] * 20, 2 ** 10 - 1), ((1, 1), (1, 1)))
        self.same(listing_shares([NEVER] * 20, 0), ((1, 1), (1, 1)))
        listing = [BETTERED, NEVER, WORSENED, ALWAYS, ALWAYS] * 4
        for dealing in (0b111, 0b1001 << 16, 0b10101 << 3):
            self.same(listing_shares(listing, dealing), wanted_shares(listing, dealing))

    def test_refused(self):
        for thing in NO_LISTINGS:
            self.assertIs(self.refused(NoListing, listing_shares, thing, None).found, thing)
        for thing in NO_NUMBERS + [-1, 4, 5]:
            self.assertIs(self.refused(NoDealing, listing_shares, [BETTERED, NEVER], thing).found, thing)

    def test_handed_in_stays(self):
        listing = [BETTERED, NEVER, ALWAYS]
        self.untouched(listing_shares, listing, 3)
        self.untouched(listing_counts, listing)
        self.untouched(fits, listing, [YES, NO, YES], 5)
        self.untouched(yes_row, [YES, NO, YES])
