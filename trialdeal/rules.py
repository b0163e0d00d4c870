"""Rules of chance, by which folk are dealt to the hands 0 and 1, one after the other."""

from trialdeal.errors import NoNumber, NoShare, NoTrials, TooMany
from trialdeal.shares import ALL, is_share, minus_share, share_of
from trialdeal.words import is_whole

MOST_FOLK = 20
MOST_PAIRS = 10
MOST_FAR = 20
MOST_RULES = 6
MOST_BOTTOM = 100


def need_number(thing, low, high):
    """Refuse what is no whole number from low to high."""
    if not is_whole(thing, low, high):
        raise NoNumber(thing)


def need_coin(thing):
    """Refuse what is no share that a coin may have."""
    # In lowest terms none and all are the two shares of the bottom 1.
    if not is_share(thing) or not is_whole(thing[1], 2, MOST_BOTTOM):
        raise NoShare(thing)


def one_part(folk):
    """All of so many folk as the one part that they are."""
    return (tuple(range(folk)),)


def parts_of(rules):
    """The folk of each of several rules, numbered on from one rule to the next."""
    parts = []
    start = 0
    for rule in rules:
        behind = start + rule.folk()
        parts.append(tuple(range(start, behind)))
        start = behind
    return tuple(parts)


def parts_below(parts, many):
    """Of each part the folk whose number is below many, where there are any."""
    cut = [tuple([at for at in part if at < many]) for part in parts]
    return tuple([part for part in cut if len(part) > 0])


def coin_steps(coin, zero, one):
    """The steps of a coin to either hand, to the state zero and to the state one."""
    return [(0, minus_share(ALL, coin), zero), (1, coin, one)]


class Rule:
    """What all rules have in common; each rule of its own tells its steps."""

    def __init__(self, size, first_state, mark, parts):
        self.size = size
        self.first_state = first_state
        self.mark = mark
        self.parts = parts

    def folk(self):
        """How many folk are dealt."""
        return self.size

    def begin(self):
        """The state from which the folk 0 is dealt."""
        return self.first_state

    def steps(self, state, at):
        """A list of tuples (hand, share, next state) for the folk at, dealt from a state."""
        raise NotImplementedError("each rule of its own tells its steps")

    def told(self):
        """The tuple that the rule is told by."""
        return self.mark

    def blocks(self):
        """The folk of each block, as new lists."""
        return [list(part) for part in self.parts]


class Split(Rule):
    """So many of the folk come to hand 1, all such dealings with the same share."""

    def __init__(self, folk, ones):
        need_number(folk, 1, MOST_FOLK)
        need_number(ones, 0, folk)
        Rule.__init__(self, folk, ones, ("split", folk, ones), one_part(folk))

    def steps(self, state, at):
        """The state is how many are still to come to hand 1."""
        left = self.size - at
        ways = []
        if state < left:
            ways.append((0, share_of(left - state, left), state))
        if state > 0:
            ways.append((1, share_of(state, left), state - 1))
        return ways


class Pairs(Rule):
    """Folk two by two, a coin for the first one, the second one to the other hand."""

    def __init__(self, pairs, coin):
        need_number(pairs, 1, MOST_PAIRS)
        need_coin(coin)
        self.coin = coin
        Rule.__init__(self, 2 * pairs, None, ("pairs", pairs, coin), one_part(2 * pairs))

    def steps(self, state, at):
        """The state is None ahead of a pair, amid it the hand of its first one."""
        if state is None:
            return coin_steps(self.coin, 0, 1)
        return [(1 - state, ALL, None)]


class Coins(Rule):
    """A coin for each one, but where one hand is ahead by far the next one to the other."""

    def __init__(self, folk, coin, far):
        need_number(folk, 1, MOST_FOLK)
        need_coin(coin)
        need_number(far, 1, MOST_FAR)
        self.coin = coin
        self.far = far
        Rule.__init__(self, folk, 0, ("coins", folk, coin, far), one_part(folk))

    def steps(self, state, at):
        """The state is how many more are in hand 1 than in hand 0."""
        if state >= self.far:
            return [(0, ALL, state - 1)]
        if state <= -self.far:
            return [(1, ALL, state + 1)]
        return coin_steps(self.coin, state - 1, state + 1)


def may_be_block(thing):
    """Whether a thing is a rule that may stand in blocks."""
    return isinstance(thing, (Split, Pairs, Coins))


def are_block_rules(thing):
    """Whether a thing is a list of rules of which blocks can be made."""
    if not isinstance(thing, list) or not is_whole(len(thing), 1, MOST_RULES):
        return False
    return all([may_be_block(rule) for rule in thing])


class Blocks(Rule):
    """Several rules, one behind the other, each with folk of its own."""

    def __init__(self, rules):
        if not are_block_rules(rules):
            raise NoTrials(rules)
        size = sum([rule.folk() for rule in rules])
        if size > MOST_FOLK:
            raise TooMany(size)
        self.rules = tuple(rules)
        mark = ("blocks", tuple([rule.told() for rule in rules]))
        Rule.__init__(self, size, self.state_ahead(0), mark, parts_of(rules))

    def state_ahead(self, number):
        """The state ahead of the first folk of a rule, or behind all folk."""
        if number == len(self.rules):
            return (number, None)
        return (number, self.rules[number].begin())

    def state_behind(self, number, at, inner):
        """The state behind the folk at, dealt by a rule that is then in the state inner."""
        if at == self.parts[number][-1]:
            return self.state_ahead(number + 1)
        return (number, inner)

    def steps(self, state, at):
        """The state is a tuple of the number of a rule and a state of this rule."""
        number, inner = state
        ways = self.rules[number].steps(inner, at - self.parts[number][0])
        return [(hand, share, self.state_behind(number, at, behind)) for hand, share, behind in ways]


class First(Rule):
    """The first so many folk of a rule, dealt as it does."""

    def __init__(self, rule, many):
        need_number(many, 0, rule.folk())
        # Of a first one of a first one the innermost rule is asked straight, so that a long chain needs no long way.
        self.dealer = rule.dealer if isinstance(rule, First) else rule
        Rule.__init__(self, many, rule.begin(), ("first", rule.told(), many), parts_below(rule.parts, many))

    def steps(self, state, at):
        """The state is one of the rule's own."""
        return self.dealer.steps(state, at)
