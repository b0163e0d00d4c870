"""A desk that keeps trials by names, and answers lines about them with lists of texts.

A line is its first word, and things behind it that are each of a kind: the name of
a trial, a level, a shift, or a look, which is written as NUMBER:LEVEL.
"""

from trialdeal.betters import kept_pairs
from trialdeal.dealings import hands_text
from trialdeal.errors import NoLine, NoTrials
from trialdeal.looks import MOST_LOOKS, Looks
from trialdeal.pouring import Poured, as_blocks
from trialdeal.power import power_of
from trialdeal.questions import Questions
from trialdeal.shares import share_in, share_text
from trialdeal.shifts import shift_shares, stretch_of
from trialdeal.toldshare import called_at
from trialdeal.trialtext import read_trial, trial_text
from trialdeal.words import is_whole, whole_in
from trialdeal.worlds import shifted_world

LETTERS = "abcdefghijklmnopqrstuvwxyz"
MOST_LETTERS = 8
MOST_WRITTEN = 10 ** 30 - 1


def name_in(word):
    """The name that a word writes, or None."""
    if not is_whole(len(word), 1, MOST_LETTERS):
        return None
    return word if all([sign in LETTERS for sign in word]) else None


def level_in(word):
    """The level that a word writes, or None."""
    return share_in(word)


def number_in_line(word):
    """The whole number of at most thirty figures that a word writes, or None."""
    return whole_in(word, -MOST_WRITTEN, MOST_WRITTEN)


def look_in(word):
    """The tuple (number, level) of a look that a word writes, or None."""
    number, colon, level = word.partition(":")
    look = (number_in_line(number), share_in(level))
    return None if None in look else look


READERS = {"name": name_in, "level": level_in, "shift": number_in_line, "look": look_in}

# Of what kinds the words behind the first one are.
KINDS = {
    "drop": ("name",), "clear": (), "names": (), "text": ("name",), "seen": ("name",), "share": ("name",),
    "spread": ("name",), "called": ("name", "level"), "shift": ("name", "shift"), "stretch": ("name", "level"),
    "pairs": ("name", "level"), "power": ("name", "level", "shift"), "looks": ("name", "look"),
    "pour": ("name",), "beside": ("name",), "questions": ("level", "name"),
}
# Of these lines the last kind may stand several times.
SEVERAL = ("looks", "pour", "beside", "questions")


def kinds_in(word, many):
    """The kinds of so many words behind a first word, or None where they cannot be so many."""
    if word not in KINDS:
        return None
    kinds = KINDS[word]
    if word in SEVERAL and many > len(kinds):
        kinds = kinds + kinds[-1:] * (many - len(kinds))
    if word == "looks" and many > 1 + MOST_LOOKS:
        return None
    return kinds if len(kinds) == many else None


def things_in(kinds, words):
    """The things that words of these kinds write, None in the place of what writes none."""
    things = []
    for kind, word in zip(kinds, words):
        reader = READERS[kind]
        things.append(reader(word))
    return things


def drop_line(kept, things):
    """No trial is kept by this name any more."""
    del kept[things[0]]
    return []


def clear_line(kept, things):
    """No trial is kept any more."""
    kept.clear()
    return []


def names_line(kept, things):
    """All names in their order."""
    return list(kept)


def text_line(kept, things):
    """The lines of a trial's text."""
    return trial_text(kept[things[0]]).split("\n")


def seen_line(kept, things):
    """The value that is seen."""
    return [f"{kept[things[0]].seen()}"]


def share_line(kept, things):
    """The share of a trial."""
    return [share_text(kept[things[0]].share())]


def value_text(value, share):
    """A value and a share, parted by a blank."""
    return f"{value} {share_text(share)}"


def spread_line(kept, things):
    """The spread of a trial, value by value."""
    spread = kept[things[0]].spread()
    return [value_text(value, spread[value]) for value in spread]


def called_line(kept, things):
    """The hands of each dealing that is called at a level."""
    name, level = things
    trial = kept[name]
    called = called_at(trial.rule, list(trial.outcomes), trial.measure, level)
    return [hands_text(dealing, trial.rule.folk()) for dealing in called]


def shift_line(kept, things):
    """The two shares of a shift."""
    name, shift = things
    trial = kept[name]
    high, low = shift_shares(trial.rule, list(trial.outcomes), trial.measure, trial.dealing, shift)
    return [f"{share_text(high)} {share_text(low)}"]


def end_text(end):
    """An end of a stretch."""
    return "open" if end is None else f"{end}"


def stretch_line(kept, things):
    """The stretch of the shifts that are not ruled out at a level."""
    name, level = things
    trial = kept[name]
    stretch = stretch_of(trial.rule, list(trial.outcomes), trial.measure, trial.dealing, level)
    if stretch is None:
        return ["none"]
    return [f"{end_text(stretch[0])} {end_text(stretch[1])}"]


def pairs_line(kept, things):
    """Each pair of numbers bettered and worsened, and whether it is ruled out at a level."""
    name, level = things
    trial = kept[name]
    pairs = kept_pairs(list(trial.outcomes), trial.dealing, level)
    answer = []
    for better, worse in pairs:
        word = "out" if pairs[(better, worse)] is None else "kept"
        answer.append(f"{better} {worse} {word}")
    return answer


def power_line(kept, things):
    """The power of a trial's rule and measure, its outcomes shifted under hand 1."""
    name, level, shift = things
    trial = kept[name]
    world = shifted_world(list(trial.outcomes), shift)
    return [share_text(power_of(trial.rule, world, trial.measure, level))]


def none_text(thing):
    """A thing as a text, None as a word."""
    return "none" if thing is None else f"{thing}"


def looks_line(kept, things):
    """The bound of each look and what is spent till then; and the look at which the trial's dealing is called."""
    trial = kept[things[0]]
    numbers = [number for number, level in things[1:]]
    levels = [level for number, level in things[1:]]
    looks = Looks(trial.rule, list(trial.outcomes), trial.measure, numbers, levels)
    answer = [value_text(none_text(bound), share) for bound, share in zip(looks.bounds(), looks.spent())]
    answer.append(f"called {none_text(looks.called(trial.dealing))}")
    return answer


def pour_line(kept, things):
    """The value and the share of trials poured together."""
    pour = Poured([kept[name] for name in things])
    return [value_text(pour.seen(), pour.share())]


def beside_line(kept, things):
    """The value and the share of trials made into one trial in blocks."""
    trial = as_blocks([kept[name] for name in things])
    return [value_text(trial.seen(), trial.share())]


def mark_of(trial):
    """What questions have to have in common, by what it is told by."""
    return (trial.rule.told(), trial.measure.told(), trial.dealing)


def questions_line(kept, things):
    """The names of those questions that are called at a level."""
    level, *names = things
    first = kept[names[0]]
    for name in names:
        if mark_of(kept[name]) != mark_of(first):
            raise NoTrials(name)
    questions = Questions(first.rule, [list(kept[name].outcomes) for name in names], first.measure)
    return [names[question] for question in questions.called(first.dealing, level)]


ANSWERS = {
    "drop": drop_line, "clear": clear_line, "names": names_line, "text": text_line, "seen": seen_line,
    "share": share_line, "spread": spread_line, "called": called_line, "shift": shift_line, "stretch": stretch_line,
    "pairs": pairs_line, "power": power_line, "looks": looks_line, "pour": pour_line, "beside": beside_line,
    "questions": questions_line,
}


class Desk:
    """Trials kept by their names, in the order in which the names came."""

    def __init__(self):
        self.kept = {}

    def say(self, line):
        """The answer to a line, a list of texts."""
        if not isinstance(line, str) or "\n" in line:
            raise NoLine(line)
        word, *words = line.split(" ")
        if word == "trial":
            return self.keep_trial(line)
        kinds = kinds_in(word, len(words))
        if kinds is None:
            raise NoLine(line)
        things = things_in(kinds, words)
        if None in things:
            raise NoLine(line)
        self.need_names([thing for kind, thing in zip(kinds, things) if kind == "name"])
        answer = ANSWERS[word]
        return answer(self.kept, things)

    def need_names(self, names):
        """Refuse the first name by which no trial is kept."""
        for name in names:
            if name not in self.kept:
                raise NoTrials(name)

    def keep_trial(self, line):
        """Keep the trial that a line tells, in the place of the one of its name."""
        word, blank, rest = line.partition(" ")
        name, behind, text = rest.partition(" ")
        if behind == "" or name_in(name) is None:
            raise NoLine(line)
        self.kept[name] = read_trial(text.replace(" / ", "\n"))
        return []
