"""Several questions settled together, so that too much is called in no more than a told share of the dealings."""

from trialdeal.dealings import dealing_parts, hand_of, need_among
from trialdeal.errors import NoChoice, NoQuestions
from trialdeal.measures import value_of
from trialdeal.shares import less_share, share_of
from trialdeal.toldshare import need_level
from trialdeal.words import has_truth, is_whole

MOST_QUESTIONS = 6


def are_rows(thing):
    """Whether a thing is a list with a row for each of one to six questions."""
    return isinstance(thing, list) and is_whole(len(thing), 1, MOST_QUESTIONS)


def told_tops(points, dealt):
    """The told share of each dealing by these scores, as tops like those of the dealings (dealing, top)."""
    values = [value_of(points, dealing) for dealing, top in dealt]
    tops = {}
    for value, (dealing, top) in zip(values, dealt):
        tops[value] = tops.get(value, 0) + top
    told = {}
    whole = 0
    for value in sorted(tops, reverse=True):
        whole += tops[value]
        told[value] = whole
    return tuple([told[value] for value in values])


class Questions:
    """One to six questions of one rule and measure; its shares are kept as tops of one bottom, dealing by dealing."""

    def __init__(self, rule, rows, measure):
        if not are_rows(rows):
            raise NoQuestions(rows)
        all_points = [measure.scores(rule, row) for row in rows]
        bottom, dealt = dealing_parts(rule)
        self.bottom = bottom
        self.tops = tuple([top for dealing, top in dealt])
        self.places = {dealing: place for place, (dealing, top) in enumerate(dealt)}
        self.answers = tuple([told_tops(points, dealt) for points in all_points])

    def all_sets(self):
        """All sets of questions, rising."""
        return list(range(1, 1 << len(self.answers)))

    def least_tops(self, several):
        """The least share of each dealing in a set."""
        inside = [tops for question, tops in enumerate(self.answers) if hand_of(several, question) == 1]
        least = inside[0]
        for tops in inside[1:]:
            least = [min(one, other) for one, other in zip(least, tops)]
        return least

    def share_in_set(self, several, dealing):
        """The share of a set at a dealing, where nothing is refused."""
        least = self.least_tops(several)
        own = least[self.places[dealing]]
        return share_of(sum([top for top, other in zip(self.tops, least) if other <= own]), self.bottom)

    def set_share(self, several, dealing):
        """The share of all dealings whose least share in a set is at most as great as that of this dealing."""
        if not is_whole(several, 1, len(self.all_sets())):
            raise NoChoice(several)
        need_among(dealing, self.places)
        return self.share_in_set(several, dealing)

    def question_row(self, question, shares, level):
        """What the paper tells of a question, by the shares of all sets."""
        held = {several: shares[several] for several in shares if hand_of(several, question) == 1}
        for several, share in held.items():
            if less_share(level, share):
                return ("not", several, share)
        return ("called", held)

    def paper(self, dealing, level):
        """For each question a tuple that shows why it is called, or why not."""
        need_among(dealing, self.places)
        need_level(level)
        shares = {several: self.share_in_set(several, dealing) for several in self.all_sets()}
        return {question: self.question_row(question, shares, level) for question in range(len(self.answers))}

    def called(self, dealing, level):
        """The questions that are called at a dealing and a level, rising."""
        paper = self.paper(dealing, level)
        return [question for question in paper if paper[question][0] == "called"]

    def shows_paper(self, dealing, level, thing):
        """Whether a thing is the paper of a dealing and a level."""
        return thing == self.paper(dealing, level) and not has_truth(thing)
