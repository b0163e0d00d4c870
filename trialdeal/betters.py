"""Folk bettered and made worse: what would have come of each under either hand, and which numbers are not ruled out.

A listing tells for each folk a tuple (under hand 1, under hand 0) of yes, 1, and no, 0.
Folk that are seen are grouped by their hand and what came of them: yes and no under
hand 1, then yes and no under hand 0. Listings that fit are told apart by how many of
each group would have come out otherwise under the other hand.
"""

from trialdeal.dealings import hand_of, need_hands, ones_of
from trialdeal.errors import NoChoice, NoFolk, NoListing, NoYes
from trialdeal.outcomes import need_outcomes
from trialdeal.rules import MOST_FOLK, need_number
from trialdeal.shares import less_share, share_of
from trialdeal.tables import told_spread
from trialdeal.toldshare import need_level
from trialdeal.words import is_number, is_whole

BETTERED = (1, 0)
WORSENED = (0, 1)
ALWAYS = (1, 1)
NEVER = (0, 0)
# For each group what a listing tells of those who would have come out otherwise, and of the others.
OTHERWISE = ((1, 0), (0, 1), (0, 1), (1, 0))
ALIKE = ((1, 1), (0, 0), (1, 1), (0, 0))


def yes_row(outcomes):
    """A list of 1 for each yes and 0 for each no."""
    need_outcomes(outcomes)
    if not is_whole(len(outcomes), 1, MOST_FOLK):
        raise NoFolk(outcomes)
    for place, (number, sure) in enumerate(outcomes):
        if not sure or not is_whole(number, 0, 1):
            raise NoYes(place)
    return [number for number, sure in outcomes]


def is_listed(thing):
    """Whether a thing tells what would come of a folk under either hand."""
    if not isinstance(thing, tuple) or len(thing) != 2:
        return False
    return is_whole(thing[0], 0, 1) and is_whole(thing[1], 0, 1)


def is_listing(thing):
    """Whether a thing is a listing."""
    if not isinstance(thing, list) or not is_whole(len(thing), 1, MOST_FOLK):
        return False
    return all([is_listed(each) for each in thing])


def need_listing(thing):
    """Refuse what is no listing."""
    if not is_listing(thing):
        raise NoListing(thing)


def counts_of(listing):
    """How many are bettered, worsened, always and never, of a list of what is told of folk."""
    return (listing.count(BETTERED), listing.count(WORSENED), listing.count(ALWAYS), listing.count(NEVER))


def listing_counts(listing):
    """A tuple of how many folk are bettered, worsened, always and never."""
    need_listing(listing)
    return counts_of(listing)


def fits_row(listing, row, dealing):
    """Whether a listing of as many folk tells all that was seen."""
    # The tuple of a folk has what comes under hand 1 first.
    return all([listing[at][1 - hand_of(dealing, at)] == seen for at, seen in enumerate(row)])


def fits(listing, outcomes, dealing):
    """Whether each outcome is what the listing tells under the hand that the dealing gives."""
    need_listing(listing)
    row = yes_row(outcomes)
    need_hands(dealing, len(row))
    if len(listing) != len(row):
        raise NoListing(listing)
    return fits_row(listing, row, dealing)


def are_counts(thing):
    """Whether a thing is a tuple of four counts of one to twenty folk."""
    if not isinstance(thing, tuple) or len(thing) != 4:
        return False
    if not all([is_whole(count, 0, MOST_FOLK) for count in thing]):
        return False
    return is_whole(sum(thing), 1, MOST_FOLK)


def choices(many):
    """How many ways there are to choose none, one, two .. of so many."""
    ways = [1]
    for chosen in range(many):
        ways.append(ways[-1] * (many - chosen) // (chosen + 1))
    return ways


def value_under(counts, dealt):
    """The value of a dealing under a listing with these counts, of each of which so many are dealt to hand 1."""
    ones = sum(dealt)
    zeros = sum(counts) - ones
    yes_one = dealt[0] + dealt[2]
    yes_zero = counts[1] - dealt[1] + counts[2] - dealt[2]
    return zeros * yes_one - ones * yes_zero


def ways_to_deal(ones, counts):
    """A list of tuples (dealt, ways): how many of each count may be dealt to hand 1, and in how many ways."""
    bettered, worsened, always, never = [choices(count) for count in counts]
    rows = []
    for first, ways in enumerate(bettered):
        for second, more in enumerate(worsened):
            for third, again in enumerate(always):
                rest = ones - first - second - third
                if is_whole(rest, 0, counts[3]):
                    rows.append(((first, second, third, rest), ways * more * again * never[rest]))
    return rows


def value_ways(ones, counts):
    """A dict from each value to how many dealings have it, under a listing with these counts."""
    values = {}
    for dealt, ways in ways_to_deal(ones, counts):
        value = value_under(counts, dealt)
        values[value] = values.get(value, 0) + ways
    return values


def counts_spread(ones, counts):
    """The spread of the values under a listing with these counts, so many folk being dealt to hand 1."""
    if not are_counts(counts):
        raise NoListing(counts)
    need_number(ones, 0, sum(counts))
    values = value_ways(ones, counts)
    return told_spread((sum(values.values()), values))


def both_shares(ones, counts, seen):
    """The share of all values at least as great as the seen one, and of those at most as great."""
    values = value_ways(ones, counts)
    whole = sum(values.values())
    high = sum([values[value] for value in values if value >= seen])
    low = sum([values[value] for value in values if value <= seen])
    return (share_of(high, whole), share_of(low, whole))


def listing_shares(listing, dealing):
    """The shares of all dealings whose value is at least, and at most, as great as that of this one."""
    need_listing(listing)
    need_hands(dealing, len(listing))
    counts = counts_of(listing)
    dealt = counts_of([listing[at] for at in ones_of(dealing, len(listing))])
    return both_shares(sum(dealt), counts, value_under(counts, dealt))


def is_kept(shares, level):
    """Whether what has these two shares is not ruled out."""
    return less_share(level, shares[0]) and less_share(level, shares[1])


def groups_seen(outcomes, dealing):
    """The four groups of folk, each a list, rising."""
    row = yes_row(outcomes)
    need_hands(dealing, len(row))
    groups = []
    for hand, yes in ((1, 1), (1, 0), (0, 1), (0, 0)):
        groups.append([at for at, seen in enumerate(row) if hand_of(dealing, at) == hand and seen == yes])
    return groups


def all_pairs(groups):
    """Each tuple (bettered, worsened) that a listing has which fits, rising."""
    yes_one, no_one, yes_zero, no_zero = [len(group) for group in groups]
    most_bettered = yes_one + no_zero
    most_worsened = no_one + yes_zero
    return [(better, worse) for better in range(most_bettered + 1) for worse in range(most_worsened + 1)]


def all_fours(groups, pair):
    """All four counts that a listing has which fits and has these numbers, rising."""
    yes_one, no_one, yes_zero, no_zero = [len(group) for group in groups]
    fours = []
    for first in range(yes_one + 1):
        for second in range(no_one + 1):
            third = pair[1] - second
            fourth = pair[0] - first
            if is_whole(third, 0, yes_zero) and is_whole(fourth, 0, no_zero):
                fours.append((first, second, third, fourth))
    return fours


def four_shares(groups, four):
    """The two shares of all listings that fit and have these four counts."""
    yes_one, no_one, yes_zero, no_zero = [len(group) for group in groups]
    always = yes_one - four[0] + yes_zero - four[2]
    never = no_one - four[1] + no_zero - four[3]
    ones = yes_one + no_one
    seen = (yes_zero + no_zero) * yes_one - ones * yes_zero
    return both_shares(ones, (four[0] + four[3], four[1] + four[2], always, never), seen)


def kept_four(groups, pair, level):
    """The first four counts with these numbers that are not ruled out, or None."""
    for four in all_fours(groups, pair):
        if is_kept(four_shares(groups, four), level):
            return four
    return None


def listing_by(groups, four):
    """A listing that fits and has these four counts, or None of no counts."""
    if four is None:
        return None
    told = {}
    for group, many, otherwise, alike in zip(groups, four, OTHERWISE, ALIKE):
        for place, at in enumerate(group):
            told[at] = otherwise if place < many else alike
    return [told[at] for at in range(len(told))]


def kept_pairs(outcomes, dealing, level):
    """For each pair (bettered, worsened) a listing that fits and is not ruled out, or None."""
    groups = groups_seen(outcomes, dealing)
    need_level(level)
    return {pair: listing_by(groups, kept_four(groups, pair, level)) for pair in all_pairs(groups)}


def is_pair(thing):
    """Whether a thing is a tuple of two whole numbers."""
    return isinstance(thing, tuple) and len(thing) == 2 and is_number(thing[0]) and is_number(thing[1])


def keeps(listing, pair, outcomes, dealing, level):
    """Whether a thing is a listing that fits, has these numbers, and is not ruled out."""
    if not is_listing(listing) or len(listing) != len(outcomes):
        return False
    if counts_of(listing)[:2] != pair or not fits_row(listing, yes_row(outcomes), dealing):
        return False
    return is_kept(listing_shares(listing, dealing), level)


def shows_kept(outcomes, dealing, level, thing):
    """Whether a thing is a dict of the pairs, with a right listing or None behind each."""
    groups = groups_seen(outcomes, dealing)
    need_level(level)
    # Pairs are all of one kind, so that equal ones stand at one place in a sorted list.
    if not isinstance(thing, dict) or not all([is_pair(key) for key in thing]):
        return False
    if sorted(thing) != all_pairs(groups):
        return False
    for pair, listing in thing.items():
        if listing is None:
            if kept_four(groups, pair, level) is not None:
                return False
        elif not keeps(listing, pair, outcomes, dealing, level):
            return False
    return True


def pair_rows(outcomes, dealing, pair):
    """A tuple (four, high, low) for each four counts of listings that fit and have these numbers, rising."""
    groups = groups_seen(outcomes, dealing)
    if not is_pair(pair) or pair not in all_pairs(groups):
        raise NoChoice(pair)
    rows = []
    for four in all_fours(groups, pair):
        high, low = four_shares(groups, four)
        rows.append((four, high, low))
    return rows


def net_stretch(outcomes, dealing, level):
    """The least and the greatest difference, bettered less worsened, that is not ruled out, or None."""
    kept = kept_pairs(outcomes, dealing, level)
    nets = [better - worse for better, worse in kept if kept[(better, worse)] is not None]
    return (min(nets), max(nets)) if len(nets) > 0 else None
