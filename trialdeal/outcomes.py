"""Outcomes: tuples (number, sure) of what came of each folk, how two of them stand, and their texts."""

from trialdeal.errors import NoFolk, NoOutcome, NoText
from trialdeal.words import is_whole, whole_in

LEAST_NUMBER = -99
MOST_NUMBER = 99


def is_outcome(thing):
    """Whether a thing is an outcome."""
    if not isinstance(thing, tuple) or len(thing) != 2:
        return False
    number, sure = thing
    return is_whole(number, LEAST_NUMBER, MOST_NUMBER) and isinstance(sure, bool)


def need_outcome(thing, place):
    """Refuse what is no outcome, by its place."""
    if not is_outcome(thing):
        raise NoOutcome(place)


def need_outcomes(thing):
    """Refuse what is no list of outcomes."""
    if not isinstance(thing, list):
        raise NoFolk(thing)
    for place, outcome in enumerate(thing):
        need_outcome(outcome, place)


def need_outcomes_of(thing, folk):
    """Refuse what is no list of outcomes of so many folk."""
    need_outcomes(thing)
    if len(thing) != folk:
        raise NoFolk(len(thing))


def surely_greater(one, other):
    """Whether an outcome is greater than another one, whatever those that are not sure may be."""
    # What is at least so much may be greater than anything, so only a sure one is surely outdone.
    return other[1] and one[0] > other[0]


def stands_to(one, other):
    """1 where the one is surely greater, -1 where the other is, else 0."""
    need_outcome(one, 0)
    need_outcome(other, 1)
    if surely_greater(one, other):
        return 1
    if surely_greater(other, one):
        return -1
    return 0


def outcome_text(outcome):
    """The word that writes an outcome."""
    number, sure = outcome
    return f"{number}" if sure else f"{number}+"


def outcomes_text(outcomes):
    """The text that writes outcomes."""
    need_outcomes(outcomes)
    return " ".join([outcome_text(outcome) for outcome in outcomes])


def outcome_in(word):
    """What a word writes, a tuple (number, sure); its number is None where it writes no outcome."""
    sure = not word.endswith("+")
    figures = word if sure else word[:-1]
    return (whole_in(figures, LEAST_NUMBER, MOST_NUMBER), sure)


def outcomes_in(text):
    """The list of outcomes that a text writes."""
    if not isinstance(text, str):
        raise NoText(text)
    if text == "":
        return []
    outcomes = [outcome_in(word) for word in text.split(" ")]
    for place, outcome in enumerate(outcomes):
        need_outcome(outcome, place)
    return outcomes
