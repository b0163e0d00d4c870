"""Measures and trials as texts, and texts read as these."""

from trialdeal.dealings import hands_in, hands_text
from trialdeal.errors import NoLine, NoText
from trialdeal.measures import MOST_WEIGHT, MOST_WEIGHTS, Ranks, Signs, Sum, Weighted, Wins
from trialdeal.outcomes import outcomes_in, outcomes_text
from trialdeal.rules import MOST_RULES
from trialdeal.ruletext import read_rule, rule_text
from trialdeal.trials import Trial
from trialdeal.words import is_whole, whole_in

DEAL = "deal "
# The lines behind those of the rule, in their order.
BEHIND = ("outcomes ", "measure ", "hands ")


def measure_text(measure):
    """The text that writes a measure."""
    mark = measure.told()
    if mark[0] != "weighted":
        return mark[0]
    weights = " ".join([f"{weight}" for weight in mark[2]])
    return f"weighted {weights} of {mark[1][0]}"


def plain_measure(word):
    """The measure of a word that is not weighted, or None."""
    if word == "sum":
        return Sum()
    if word == "ranks":
        return Ranks()
    if word == "wins":
        return Wins()
    return Signs() if word == "signs" else None


def weighted_in(words):
    """The weighted measure that words write, or None."""
    if len(words) < 4 or words[0] != "weighted" or words[-2] != "of":
        return None
    inner = plain_measure(words[-1])
    weights = [whole_in(word, 0, MOST_WEIGHT) for word in words[1:-2]]
    if inner is None or None in weights or not is_whole(len(weights), 1, MOST_WEIGHTS):
        return None
    return Weighted(inner, weights)


def measure_in(thing):
    """The measure that a thing, a text, writes, or None."""
    if not isinstance(thing, str):
        return None
    words = thing.split(" ")
    return plain_measure(words[0]) if len(words) == 1 else weighted_in(words)


def trial_text(trial):
    """The text that writes a trial."""
    lines = [DEAL + line for line in rule_text(trial.rule).split("\n")]
    lines.append("outcomes " + outcomes_text(list(trial.outcomes)))
    lines.append("measure " + measure_text(trial.measure))
    lines.append("hands " + hands_text(trial.dealing, trial.rule.folk()))
    return "\n".join(lines)


def count_deals(lines):
    """How many of the first lines tell the rule, six at most."""
    many = 0
    while many < MOST_RULES and many < len(lines) and lines[many].startswith(DEAL):
        many += 1
    return many


def need_lines(lines, deals):
    """Refuse the first line that does not begin as it should, so many telling the rule."""
    if deals == 0:
        raise NoLine(0)
    for number, beginning in enumerate(BEHIND, start=deals):
        if number == len(lines) or not lines[number].startswith(beginning):
            raise NoLine(number)
    if len(lines) > deals + len(BEHIND):
        raise NoLine(deals + len(BEHIND))


def need_measure(text, number):
    """The measure that a text writes; it stands in the line of this number."""
    measure = measure_in(text)
    if measure is None:
        raise NoLine(number)
    return measure


def need_dealing(text, folk, number):
    """The dealing of so many folk whose hands a text writes; it stands in the line of this number."""
    told = hands_in(text)
    if told is None or told[1] != folk:
        raise NoLine(number)
    return told[0]


def read_trial(text):
    """The trial that a text tells."""
    if not isinstance(text, str):
        raise NoText(text)
    lines = text.split("\n")
    deals = count_deals(lines)
    need_lines(lines, deals)
    rule = read_rule("\n".join([line[len(DEAL):] for line in lines[:deals]]))
    words, written, hands = [line[len(beginning):] for line, beginning in zip(lines[deals:], BEHIND)]
    outcomes = outcomes_in(words)
    measure = need_measure(written, deals + 1)
    dealing = need_dealing(hands, rule.folk(), deals + 2)
    return Trial(rule, outcomes, measure, dealing)
