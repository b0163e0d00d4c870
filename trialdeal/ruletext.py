"""Rules as texts, and texts read as rules."""

from trialdeal.errors import NoNumber, NoRule, NoShare, NoText
from trialdeal.rules import MOST_FOLK, MOST_RULES, Blocks, Coins, Pairs, Split
from trialdeal.shares import share_in, share_text
from trialdeal.words import count_in


def split_line(mark):
    """The line of a split, by the tuple that it is told by."""
    return f"split {mark[2]} of {mark[1]}"


def pairs_line(mark):
    """The line of pairs, by the tuple that they are told by."""
    return f"pairs {mark[1]} by {share_text(mark[2])}"


def coins_line(mark):
    """The line of coins, by the tuple that they are told by."""
    return f"coins {mark[1]} by {share_text(mark[2])} far {mark[3]}"


WRITERS = {"split": split_line, "pairs": pairs_line, "coins": coins_line}


def line_of(mark):
    """The line of a split, pairs or coins, by the tuple that it is told by."""
    writer = WRITERS[mark[0]]
    return writer(mark)


def rule_text(rule):
    """The text that writes a split, pairs, coins, or blocks."""
    mark = rule.told()
    marks = mark[1] if mark[0] == "blocks" else (mark,)
    return "\n".join([line_of(each) for each in marks])


def split_in(words):
    """The split that words write, or None; its rule refuses what are no such numbers."""
    if len(words) != 4 or words[2] != "of":
        return None
    return Split(count_in(words[3]), count_in(words[1]))


def pairs_in(words):
    """The pairs that words write, or None; refused likewise."""
    if len(words) != 4 or words[2] != "by":
        return None
    return Pairs(count_in(words[1]), share_in(words[3]))


def coins_in(words):
    """The coins that words write, or None; refused likewise."""
    if len(words) != 6 or words[2] != "by" or words[4] != "far":
        return None
    return Coins(count_in(words[1]), share_in(words[3]), count_in(words[5]))


READERS = {"split": split_in, "pairs": pairs_in, "coins": coins_in}


def rule_in(line):
    """The rule that a line writes, or None."""
    words = line.split(" ")
    if words[0] not in READERS:
        return None
    reader = READERS[words[0]]
    try:
        return reader(words)
    except (NoNumber, NoShare):
        return None


def read_rule(text):
    """The rule that a text tells."""
    if not isinstance(text, str):
        raise NoText(text)
    rules = []
    folk = 0
    for number, line in enumerate(text.split("\n")):
        rule = rule_in(line)
        if rule is None or number == MOST_RULES:
            raise NoRule(number)
        folk += rule.folk()
        if folk > MOST_FOLK:
            raise NoRule(number)
        rules.append(rule)
    return rules[0] if len(rules) == 1 else Blocks(rules)
