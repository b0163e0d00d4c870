"""Dealings: which hand each folk has, told by the bits of a whole number, and with which share a rule deals so."""

from trialdeal.errors import NoDealing, TooMany
from trialdeal.rules import MOST_FOLK
from trialdeal.shares import ALL, NONE, common_bottom, times_share
from trialdeal.words import is_number, is_whole

MOST_TOLD = 5000
HANDS = "01"


def need_few(many):
    """Refuse more than may be gone through, or told."""
    # One more than there may be is told whatever many is, as nothing is counted on behind that.
    if many > MOST_TOLD:
        raise TooMany(MOST_TOLD + 1)


def need_hands(thing, folk):
    """Refuse what does not tell the hands of so many folk."""
    if not is_whole(thing, 0, (1 << folk) - 1):
        raise NoDealing(thing)


def hand_of(dealing, at):
    """The hand of the folk at in a dealing."""
    return (dealing >> at) & 1


def ones_of(dealing, folk):
    """Those of so many folk that have hand 1 in a dealing, rising."""
    return [at for at in range(folk) if hand_of(dealing, at) == 1]


def step_to(rule, state, at, hand):
    """The share and the next state of the folk's step to a hand; no share where there is no such step."""
    for way, share, behind in rule.steps(state, at):
        if way == hand:
            return share, behind
    return NONE, state


def dealing_share(rule, dealing):
    """The share with which a rule deals so."""
    need_hands(dealing, rule.folk())
    whole = ALL
    state = rule.begin()
    for at in range(rule.folk()):
        share, state = step_to(rule, state, at, hand_of(dealing, at))
        # From no step no state is come to, so nothing more can be asked of the rule.
        if share == NONE:
            return NONE
        whole = times_share(whole, share)
    return whole


def need_dealt(rule, thing):
    """Refuse what is none of the dealings of a rule."""
    if dealing_share(rule, thing) == NONE:
        raise NoDealing(thing)


def need_among(thing, dealings):
    """Refuse what is none of the dealings that are the keys of a dict."""
    if not is_number(thing) or thing not in dealings:
        raise NoDealing(thing)


def one_more_dealt(rule, beginnings, at):
    """The beginnings (dealing, share, state) that come of those told by dealing the folk at."""
    longer = []
    for dealing, share, state in beginnings:
        for hand, part, behind in rule.steps(state, at):
            longer.append((dealing + (hand << at), times_share(share, part), behind))
    return longer


def all_dealings(rule):
    """A list of tuples (dealing, share) of all dealings that the rule deals, rising."""
    beginnings = [(0, ALL, rule.begin())]
    for at in range(rule.folk()):
        beginnings = one_more_dealt(rule, beginnings, at)
        # Each beginning goes on to one dealing at least, so there are no fewer dealings than these.
        need_few(len(beginnings))
    return sorted([(dealing, share) for dealing, share, state in beginnings])


def dealing_parts(rule):
    """A bottom, and a list of tuples (dealing, top) of all dealings, rising, the share of each being top / bottom."""
    dealings = all_dealings(rule)
    bottom = common_bottom([share for dealing, share in dealings])
    return bottom, [(dealing, share[0] * (bottom // share[1])) for dealing, share in dealings]


def hands_text(dealing, folk):
    """The text that writes the hands of so many folk, that of the folk 0 first."""
    return "".join([HANDS[hand_of(dealing, at)] for at in range(folk)])


def hands_in(thing):
    """The tuple (dealing, folk) that a thing, a text, writes, or None."""
    if not isinstance(thing, str) or not is_whole(len(thing), 1, MOST_FOLK):
        return None
    dealing = 0
    for at, sign in enumerate(thing):
        hand = HANDS.find(sign)
        if hand < 0:
            return None
        dealing += hand << at
    return (dealing, len(thing))
