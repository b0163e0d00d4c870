"""Points 6, 115 and 116: what a desk answers about one trial and about several, against what the stages tell."""

from gonethrough import HALF, DealCase, dealt, small_cases
from trialdeal.betters import kept_pairs
from trialdeal.desk import Desk
from trialdeal.errors import DealError, NoChoice, NoFolk, NoLooks, NoNumber, NoPairs, NoQuestions, NotSure, NoTrials, NoWorld, NoYes, TooMany
from trialdeal.looks import Looks
from trialdeal.measures import Measure, Sum
from trialdeal.pouring import Poured, as_blocks
from trialdeal.power import power_of
from trialdeal.questions import Questions
from trialdeal.shares import share_text
from trialdeal.shifts import shift_shares, stretch_of
from trialdeal.toldshare import called_at
from trialdeal.trials import Trial
from trialdeal.trialtext import read_trial, trial_text
from trialdeal.worlds import shifted_world

LEVELS = [(0, 1), (1, 20), (1, 6), (1, 3), (1, 2), (4, 5), (1, 1)]
TEXT = "deal split 2 of 4 / outcomes 4 1 3 0 / measure sum / hands 1100"
OTHER = "deal split 2 of 4 / outcomes 1 1 0 0 / measure sum / hands 1100"
THIRD = "deal split 2 of 4 / outcomes 0 0 9 9 / measure sum / hands 1100"


def some_trials():
    """Trials of all rules that have texts, and of all measures."""
    trials = []
    for rule, outcomes, measure in small_cases():
        if rule.told()[0] != "first":
            dealings = list(dealt(rule))
            trials.append(Trial(rule, outcomes, measure, dealings[len(dealings) // 3]))
    yes = [(1, True), (0, True), (1, True), (1, True), (0, True), (0, True), (1, True)]
    return trials + [Trial(rule, yes[:rule.folk()], measure, dealing) for rule, measure, dealing in ((trials[3].rule, Sum(), trials[3].dealing), (trials[-1].rule, Sum(), trials[-1].dealing))]


def line_of(trial):
    return trial_text(trial).replace("\n", " / ")


def keep(desk, name, text):
    desk.say(f"trial {name} {text}")
    return read_trial(text.replace(" / ", "\n"))


def fields_of(refusal):
    """The fields of a refusal, a measure by what it is told by."""
    return {name: field.told() if isinstance(field, Measure) else field for name, field in vars(refusal).items()}


def hands(dealing, folk):
    return "".join(str(dealing >> at & 1) for at in range(folk))


class AskCase(DealCase):
    def alike(self, desk, line, call):
        """The desk answers a line as a call tells, or refuses it just as the call does."""
        try:
            wanted = call()
        except DealError as refusal:
            caught = self.refused(type(refusal), desk.say, line)
            self.same(fields_of(caught), fields_of(refusal))
            return None
        self.same(desk.say(line), wanted)
        self.same(desk.say(line), wanted)
        return wanted


class One(AskCase):
    def setUp(self):
        self.trials = some_trials()
        self.desks = [Desk() for trial in self.trials]
        for desk, trial in zip(self.desks, self.trials):
            desk.say("trial first " + TEXT)
            desk.say("trial mine " + line_of(trial))

    def ask(self, line, call):
        """All desks about their own trial."""
        return [self.alike(desk, line, lambda: call(trial)) for desk, trial in zip(self.desks, self.trials)]

    def test_text_seen_share_spread(self):
        self.ask("text mine", lambda trial: trial_text(trial).split("\n"))
        self.ask("seen mine", lambda trial: [str(trial.seen())])
        self.ask("share mine", lambda trial: [share_text(trial.share())])
        self.ask("spread mine", lambda trial: [f"{value} {share_text(share)}" for value, share in trial.spread().items()])

    def test_called(self):
        for level in LEVELS:
            self.ask(
                f"called mine {share_text(level)}",
                lambda trial: [hands(dealing, trial.rule.folk()) for dealing in called_at(trial.rule, list(trial.outcomes), trial.measure, level)],
            )

    def test_shift(self):
        for shift in (-10001, -10000, -3, 0, 2, 10000, 10 ** 29):
            told = self.ask(f"shift mine {shift}", lambda trial: [" ".join(share_text(share) for share in shift_shares(trial.rule, list(trial.outcomes), trial.measure, trial.dealing, shift))])
            self.assertTrue(shift in (-10001, 10 ** 29) or any(told))

    def test_stretch(self):
        def wanted(trial):
            stretch = stretch_of(trial.rule, list(trial.outcomes), trial.measure, trial.dealing, level)
            return ["none"] if stretch is None else [" ".join("open" if end is None else str(end) for end in stretch)]

        seen = []
        for level in LEVELS:
            seen += [told[0] for told in self.ask(f"stretch mine {share_text(level)}", wanted) if told]
        self.assertIn("none", seen)
        self.assertIn("open open", seen)
        self.assertTrue(any("open" not in told and told != "none" for told in seen))

    def test_pairs(self):
        def wanted(trial):
            pairs = kept_pairs(list(trial.outcomes), trial.dealing, level)
            return [f"{better} {worse} {'out' if listing is None else 'kept'}" for (better, worse), listing in pairs.items()]

        seen = []
        for level in LEVELS:
            seen += [line for told in self.ask(f"pairs mine {share_text(level)}", wanted) if told for line in told]
        self.assertTrue(any(line.endswith(" kept") for line in seen) and any(line.endswith(" out") for line in seen))

    def test_power(self):
        for level, shift in (((1, 3), 0), ((1, 3), 5), ((1, 2), -5), ((1, 1), 200), ((0, 1), 3), ((1, 20), 10 ** 29)):
            self.ask(
                f"power mine {share_text(level)} {shift}",
                lambda trial: [share_text(power_of(trial.rule, shifted_world(list(trial.outcomes), shift), trial.measure, level))],
            )

    def test_looks(self):
        seen = []
        for numbers, levels in (([1], [(1, 2)]), ([2, 4], [(1, 6), (2, 3)]), ([2, 4], [(0, 1), (1, 20)]), ([2, 3, 4], [(1, 4)] * 3), ([1, 2], [(1, 2), (1, 3)]), ([3, 2], [(1, 2)] * 2), ([1, 2, 3, 4, 5, 6], [(1, 1)] * 6)):
            def wanted(trial):
                looks = Looks(trial.rule, list(trial.outcomes), trial.measure, numbers, levels)
                rows = [f"{'none' if bound is None else bound} {share_text(share)}" for bound, share in zip(looks.bounds(), looks.spent())]
                look = looks.called(trial.dealing)
                return rows + [f"called {'none' if look is None else look}"]

            words = " ".join(f"{number}:{share_text(level)}" for number, level in zip(numbers, levels))
            seen += [line for told in self.ask(f"looks mine {words}", wanted) if told for line in told]
        self.assertTrue({"called none", "called 0", "called 1"} <= set(seen))
        self.assertTrue(any(line.startswith("none ") for line in seen))


class ByHand(AskCase):
    def desk(self):
        desk = Desk()
        desk.say("trial a " + TEXT)
        desk.say("trial b " + OTHER)
        desk.say("trial c " + THIRD)
        return desk

    def test_answers(self):
        desk = self.desk()
        for line, answer in (
            ("text a", ["deal split 2 of 4", "outcomes 4 1 3 0", "measure sum", "hands 1100"]), ("seen a", ["5"]), ("seen c", ["0"]), ("share a", ["1/3"]), ("share c", ["1"]),
            ("spread a", ["1 1/6", "3 1/6", "4 1/3", "5 1/6", "7 1/6"]), ("spread b", ["0 1/6", "1 2/3", "2 1/6"]), ("called a 1/3", ["1100", "1010"]), ("called a 0", []), ("called b 1/6", ["1100"]),
            ("shift a 3", ["5/6 1/3"]), ("shift a -10000", ["1/6 1"]), ("stretch a 1/6", ["-2 4"]), ("stretch a 0", ["open open"]), ("stretch a 1", ["none"]),
            ("pairs b 1/6", ["0 0 out", "1 0 out", "2 0 kept", "3 0 kept", "4 0 kept"]), ("power b 1/6 9", ["1"]), ("power a 1/7 9", ["0"]), ("looks a 2:1/6 4:2/3", ["5 1/6", "4 2/3", "called 0"]),
            ("looks c 1:0 4:1/6", ["none 0", "18 1/6", "called none"]), ("pour a", ["5 1/3"]), ("pour a b", ["7 7/36"]), ("pour b a", ["7 7/36"]), ("beside a b", ["7 7/36"]), ("questions 1/2 a b c", ["a", "b"]),
            ("questions 1/6 a b", []), ("questions 1/3 a b", ["a", "b"]), ("questions 0 a b c", []), ("questions 1 a b c", ["a", "b", "c"]), ("questions 1/2 a a", ["a", "a"]),
        ):
            self.same(desk.say(line), answer)

    def test_refused_by_the_stages(self):
        desk = self.desk()
        desk.say("trial w deal split 2 of 4 / outcomes 4+ 1 3 0 / measure wins / hands 1100")
        desk.say("trial p deal pairs 2 by 1/2 / outcomes 4+ 1 3 0 / measure signs / hands 1010")
        desk.say("trial n deal split 10 of 20 / outcomes " + "1 0 " * 10 + "/ measure sum / hands " + "10" * 10)
        for line, refusal, field, wanted in (
            ("pairs a 1/2", NoYes, "place", 0), ("shift p 0", NotSure, "place", 0), ("stretch p 1/2", NotSure, "place", 0), ("shift a 10001", NoNumber, "found", 10001), ("looks a 4:1/2 5:1/2", NoLooks, "look", 1),
            ("looks a 2:1/2 4:1/3", NoLooks, "look", 1), ("looks p 2:1/3 3:1/2", NoPairs, "block", 0), ("looks n 2:1/2", TooMany, "many", 20), ("called n 1/2", TooMany, "many", 5001), ("power n 1/2 0", TooMany, "many", 5001),
            ("shift n 0", TooMany, "many", 5001), ("stretch n 1/2", TooMany, "many", 5001), ("power a 1/2 96", NoWorld, "place", 0), ("power a 1/2 97", NoWorld, "place", 0), ("questions 1/2 n", TooMany, "many", 5001),
            ("pour n n n n", TooMany, "many", 80), ("beside n a", TooMany, "many", 24),
        ):
            self.same(getattr(self.refused(refusal, desk.say, line), field), wanted)
        for line in ("shift w 0", "stretch w 1/2"):
            self.same(self.refused(NoChoice, desk.say, line).found.told(), ("wins",))
        self.assertFalse(issubclass(NoFolk, NoYes))


class Several(AskCase):
    def kept(self):
        desk = Desk()
        trials = {
            name: keep(desk, name, text) for name, text in (
                ("a", TEXT), ("b", OTHER), ("c", THIRD), ("rank", TEXT.replace("sum", "ranks")), ("rule", TEXT.replace("split 2 of 4", "coins 4 by 1/2 far 20")), ("hand", TEXT.replace("1100", "1010")),
                ("pairs", "deal pairs 2 by 1/3 / outcomes 4 1 3 0 / measure sum / hands 1001"), ("blocks", "deal split 1 of 2 / deal split 1 of 2 / outcomes 4 1 3 0 / measure sum / hands 1001"),
                ("weight", TEXT.replace("sum", "weighted 2 of sum")), ("weightb", OTHER.replace("sum", "weighted 2 of sum")), ("weightc", OTHER.replace("sum", "weighted 3 of sum")),
            )
        }
        return desk, trials

    def test_pour(self):
        desk, trials = self.kept()
        for names in ("a", "a b", "b a", "a a a", "a rank rule hand pairs blocks weight", "weight weightc", " ".join(["a"] * 15), " ".join(["pairs", "a"] * 7)):
            def wanted():
                pour = Poured([trials[name] for name in names.split(" ")])
                return [f"{pour.seen()} {share_text(pour.share())}"]

            self.alike(desk, f"pour {names}", wanted)
        self.same(self.refused(TooMany, desk.say, "pour" + " a" * 16).many, 64)
        found = self.refused(NoTrials, desk.say, "pour" + " a" * 21).found
        self.assertIs(type(found), list)
        self.same([trial.rule.told() for trial in found], [("split", 4, 2)] * 21)

    def test_beside(self):
        desk, trials = self.kept()
        for names in ("a", "a b", "b a", "a a a", "a rule hand pairs", "rank", "rank rank", "a b c a b"):
            def wanted():
                trial = as_blocks([trials[name] for name in names.split(" ")])
                return [f"{trial.seen()} {share_text(trial.share())}"]

            self.alike(desk, f"beside {names}", wanted)
        for names in ("a rank", "blocks", "a blocks", "weight", "a a a a a a a", "weight weight"):
            found = self.refused(NoTrials, desk.say, f"beside {names}").found
            self.assertIs(type(found), list)
            self.same([trial_text(trial) for trial in found], [trial_text(trials[name]) for name in names.split(" ")])
        self.same(self.refused(TooMany, desk.say, "beside a a a a a a").many, 24)

    def test_questions(self):
        desk, trials = self.kept()
        for names in ("a", "a b", "b a", "a b c", "c b a", "a a", "a b c a b c", "rank", "weight weightb"):
            for level in LEVELS:
                def wanted():
                    several = [trials[name] for name in names.split(" ")]
                    questions = Questions(several[0].rule, [list(trial.outcomes) for trial in several], several[0].measure)
                    return [names.split(" ")[at] for at in questions.called(several[0].dealing, level)]

                self.alike(desk, f"questions {share_text(level)} {names}", wanted)

    def test_questions_of_unlike_trials(self):
        desk, trials = self.kept()
        for names, first in (
            ("a rank", "rank"), ("a rule", "rule"), ("a hand", "hand"), ("a b pairs hand", "pairs"), ("rank a", "a"), ("rule a", "a"), ("hand a b", "a"), ("a b c a b c hand rule", "hand"), ("a weight", "weight"),
            ("weight weightb weightc", "weightc"), ("a a a a a a a a rule", "rule"),
        ):
            self.same(self.refused(NoTrials, desk.say, f"questions 1/2 {names}").found, first)
        found = self.refused(NoQuestions, desk.say, "questions 1/2 a a a a a a b").found
        self.same(found, [[(4, True), (1, True), (3, True), (0, True)]] * 6 + [[(1, True), (1, True), (0, True), (0, True)]])

    def test_made_alike(self):
        desk, trials = self.kept()
        desk.say("trial again " + TEXT)
        self.same(desk.say("questions 1/2 a again"), ["a", "again"])
        self.assertEqual(HALF, (1, 2))
