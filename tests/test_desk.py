"""Points 6, 113 and 114: a desk that keeps trials by names, and the lines that it is told."""

from gonethrough import BIG, NO_NUMBERS, DealCase
from trialdeal.desk import Desk
from trialdeal.errors import DealError, NoDealing, NoFolk, NoLevel, NoLine, NoLooks, NoNumber, NoOutcome, NoRule, NoTrials, NotSure, NoYes

TEXT = "deal split 2 of 4 / outcomes 4 1 3 0 / measure sum / hands 1100"
YES = "deal split 2 of 4 / outcomes 1 1 0 0 / measure sum / hands 1100"
RANKS = "deal split 2 of 4 / outcomes 4 1 3 0 / measure ranks / hands 1100"
FIGURES = "1" * 30


def desk_of(**texts):
    desk = Desk()
    for name, text in texts.items():
        desk.say(f"trial {name} {text}")
    return desk


def all_answers(desk):
    """All that a desk tells of what it keeps."""
    return [[desk.say(f"{word} {name}") for word in ("text", "seen", "share", "spread")] for name in desk.say("names")] + [desk.say("names")]


class Lines(DealCase):
    def no_line(self, desk, line):
        kept = all_answers(desk)
        self.assertIs(self.refused(NoLine, desk.say, line).line, line)
        self.same(all_answers(desk), kept)

    def test_what_is_no_text(self):
        desk = desk_of(a=TEXT)
        for thing in [thing for thing in NO_NUMBERS if not isinstance(thing, str)] + [0, ["names"], ("names",), desk, {"names": 1}]:
            self.no_line(desk, thing)

    def test_line_feeds(self):
        desk = desk_of(a=TEXT)
        for line in ("names\n", "\nnames", "seen\na", "seen a\n", "\n", "trial a " + TEXT.replace(" / ", "\n"), "trial a \n", "trial b " + TEXT + "\n"):
            self.no_line(desk, line)

    def test_blanks(self):
        desk = desk_of(a=TEXT, b=YES)
        for line in (
            "", " ", "  ", " names", "names ", " clear", "clear ", "seen  a", "seen a ", " seen a", "seen ", "called  a 1/2", "called a  1/2", "called a 1/2 ", "power a 1/2  1", "looks a  2:1/2", "looks a 2:1/2 ",
            "looks a 2: 1/2", "looks a 2 :1/2", "pour a  b", "pour a b ", "pour ", "questions 1/2  a", "questions  1/2 a", "questions 1/2 a ", " trial a " + TEXT, "trial  a " + TEXT, "drop  a", "drop a ",
        ):
            self.no_line(desk, line)

    def test_words(self):
        desk = desk_of(a=TEXT, b=YES)
        for line in (
            "Names", "NAMES", "name", "Seen a", "SEEN a", "seenn a", "see a", "what", "what a", "a", "trial", "trial a", "trials a " + TEXT, "Trial a " + TEXT, "names a", "clear a", "drop", "drop a b", "text",
            "text a b", "seen", "seen a b", "share", "share a 1/2", "spread", "spread a a", "called a", "called", "called a 1/2 1/2", "called 1/2 a", "shift a", "shift a 1 1", "shift 1 a", "stretch a",
            "stretch a 1/2 1", "pairs a", "pairs a 1/2 1/2", "power a", "power a 1/2", "power a 1 1/2", "power a 1/2 1 1", "looks", "looks a", "looks 2:1/2", "looks 2:1/2 a", "looks a b 2:1/2", "pour", "beside",
            "questions", "questions 1/2", "questions a", "questions a 1/2", "questions a b", "pour a 1/2", "pour a 1", "beside 1/2 a", "called a b", "looks a 2", "looks a 1/2", "looks a :1/2", "looks a 2:",
            "looks a :", "looks a 2:1/2:1/2", "looks a 2:1/2,4:1/2", "looks a 1:1 2:1 3:1 4:1 5:1 6:1 7:1", "clear names", "seen,a", "0", "1/2", "-", "/",
        ):
            self.no_line(desk, line)

    def test_names(self):
        desk = desk_of(a=TEXT)
        for name in ("A", "aB", "a1", "1", "a-b", "a_b", "a.b", "abcdefghi", "a" * 9, "a" * 100, "-", "~", "", "1/2", "2:1/2"):
            for line in (f"trial {name} {TEXT}", f"drop {name}", f"text {name}", f"seen {name}", f"called {name} 1/2", f"power {name} 1/2 1", f"looks {name} 2:1/2", f"pour a {name}", f"beside a {name}", f"questions 1/2 a {name}"):
                self.no_line(desk, line)
        for name in ("a", "z", "ab", "abcdefgh", "zzzzzzzz", "trial", "names", "clear", "none", "open"):
            self.same(desk.say(f"trial {name} {TEXT}"), [])
            self.same(desk.say(f"seen {name}"), ["5"])

    def test_levels(self):
        desk = desk_of(a=TEXT, b=YES)
        for level in ("2/4", "0/1", "1/1", "5/3", "01", "00", "+1", "-1", "2", "1/0", "/2", "1/", "1//2", "01/2", "1/02", "-1/2", "0.5", "half", "1/2/3", "1 /2"):
            for line in (f"called a {level}", f"stretch a {level}", f"pairs b {level}", f"power a {level} 1", f"looks a 2:{level}", f"looks a 2:1/2 4:{level}", f"questions {level} a"):
                self.no_line(desk, line)
        for level in ("0", "1", "1/2", "1/" + "9" * 900):
            for line in (f"called a {level}", f"stretch a {level}", f"pairs b {level}", f"power a {level} 1", f"looks a 2:{level}", f"questions {level} a"):
                self.assertIsInstance(desk.say(line), list)

    def test_numbers(self):
        desk = desk_of(a=TEXT)
        for number in ("01", "00", "-0", "+1", "-01", "1.0", "", "--1", "- 1", "1/2", "one", "1e3", FIGURES + "1", "-" + FIGURES + "1", "1" + "0" * 30, "-1" + "0" * 30, "1_0", "1,0", "-"):
            for line in (f"shift a {number}", f"power a 1/2 {number}", f"looks a {number}:1/2", f"looks a 1:1/2 {number}:1/2"):
                self.no_line(desk, line)
        for number in (BIG, -BIG, 10001, -10001):
            self.same(self.refused(NoNumber, desk.say, f"shift a {number}").found, number)
            self.same(self.refused(NoLooks, desk.say, f"looks a {number}:1/2").look, 0)
            self.same(self.refused(NoLooks, desk.say, f"looks a 1:1/2 {number}:1/2").look, 1)
        self.same(self.refused(NoLooks, desk.say, "looks a 0:1/2").look, 0)
        self.same(self.refused(NoLooks, desk.say, "looks a -1:1/2").look, 0)

    def test_signs_of_other_kinds(self):
        desk = desk_of(a=TEXT)
        for line in ("seen\ta", "names!", "seen a;", "seen 'a'", "(names)", "seen a/b", "pour a,a"):
            self.no_line(desk, line)


class Names(DealCase):
    def test_the_first_name_that_is_not_kept(self):
        desk = desk_of(a=TEXT, b=YES)
        for line, name in (
            ("drop x", "x"), ("text x", "x"), ("seen x", "x"), ("share x", "x"), ("spread x", "x"), ("called x 1/2", "x"), ("shift x 99999", "x"), ("stretch x 1/2", "x"), ("pairs x 1/2", "x"), ("power x 1/2 1", "x"),
            ("looks x 99:1/2", "x"), ("pour x", "x"), ("pour a x y", "x"), ("pour y a x", "y"), ("beside a b x", "x"), ("beside x a", "x"), ("questions 1/2 x", "x"), ("questions 1/2 a b x y", "x"),
            ("pour " + "a " * 30 + "x", "x"), ("beside " + "a " * 10 + "x", "x"), ("questions 1/2 " + "a " * 10 + "x", "x"), ("seen trial", "trial"), ("drop abcdefgh", "abcdefgh"),
        ):
            kept = all_answers(desk)
            self.same(self.refused(NoTrials, desk.say, line).found, name)
            self.same(all_answers(desk), kept)

    def test_no_line_ahead_of_names(self):
        desk = desk_of(a=TEXT)
        for line in ("called x 2/4", "shift x 01", "power x 1/2 +1", "looks x 2:2/4", "pour x A", "questions 2/4 x", "seen x x"):
            self.assertIs(self.refused(NoLine, desk.say, line).line, line)

    def test_names_ahead_of_the_stages(self):
        desk = desk_of(a=TEXT)
        self.same(self.refused(NoTrials, desk.say, "questions 1/2 " + "a " * 7 + "x").found, "x")
        self.same(self.refused(NoYes, desk.say, "pairs a 1/2").place, 0)
        self.same(self.refused(NoTrials, desk.say, "pairs x 1/2").found, "x")


class Keeping(DealCase):
    def test_told_in_order(self):
        desk = Desk()
        self.same(desk.say("names"), [])
        for name in ("b", "a", "zz", "c"):
            self.same(desk.say(f"trial {name} {TEXT}"), [])
        self.same(desk.say("names"), ["b", "a", "zz", "c"])

    def test_told_in_the_place_of_another_one(self):
        desk = desk_of(b=TEXT, a=TEXT, c=TEXT)
        self.same(desk.say(f"trial a {YES}"), [])
        self.same(desk.say("names"), ["b", "a", "c"])
        self.same(desk.say("text a"), YES.split(" / "))
        self.same(desk.say("text b"), TEXT.split(" / "))

    def test_drop_and_clear(self):
        desk = desk_of(b=TEXT, a=TEXT, c=TEXT)
        self.same(desk.say("drop a"), [])
        self.same(desk.say("names"), ["b", "c"])
        self.same(self.refused(NoTrials, desk.say, "seen a").found, "a")
        self.same(desk.say(f"trial a {YES}"), [])
        self.same(desk.say("names"), ["b", "c", "a"])
        self.same(desk.say("clear"), [])
        self.same(desk.say("names"), [])
        self.same(desk.say("clear"), [])
        self.same(self.refused(NoTrials, desk.say, "drop b").found, "b")
        desk.say(f"trial c {YES}")
        self.same(desk.say("names"), ["c"])

    def test_what_the_text_refuses(self):
        desk = desk_of(a=TEXT, b=YES)
        kept = all_answers(desk)
        for text, refusal, field, wanted in (
            ("", NoLine, "line", 0), (" ", NoLine, "line", 0), ("x", NoLine, "line", 0), (" " + TEXT, NoLine, "line", 0), (TEXT + " / ", NoLine, "line", 4), (TEXT + " / x", NoLine, "line", 4), (" / " + TEXT, NoLine, "line", 0),
            ("deal split 2 of 4", NoLine, "line", 1), (TEXT.replace(" / ", "/"), NoLine, "line", 1), (TEXT.replace(" / ", " /"), NoLine, "line", 1), (TEXT.replace(" / measure", "  /  measure"), NoLine, "line", 2),
            ("deal split 5 of 4 / outcomes 4 1 3 0 / measure sum / hands 1100", NoRule, "line", 0), ("deal split 1 of 2 / deal x / outcomes 4 1 3 0 / measure sum / hands 1100", NoRule, "line", 1),
            ("deal split 2 of 4 / outcomes 4 1 x 0 / measure sum / hands 1100", NoOutcome, "place", 2), ("deal split 2 of 4 / outcomes  / measure sum / hands 1100", NoFolk, "found", 0),
            ("deal split 2 of 4 / outcomes 4 1 3 0 / measure sums / hands 1100", NoLine, "line", 2), ("deal split 2 of 4 / outcomes 4 1 3 0 / measure sum / hands 110", NoLine, "line", 3),
            ("deal split 2 of 4 / outcomes 4 1 3 0+ / measure sum / hands 1100", NotSure, "place", 3), ("deal split 2 of 4 / outcomes 4 1 3 0 / measure sum / hands 1110", NoDealing, "found", 7), (TEXT + " ", NoLine, "line", 3),
        ):
            for name in ("a", "new"):
                self.same(getattr(self.refused(refusal, desk.say, f"trial {name} {text}"), field), wanted)
                self.same(all_answers(desk), kept)

    def test_text_without_signs(self):
        desk = Desk()
        self.same(self.refused(NoLine, desk.say, "trial a ").line, 0)
        self.same(self.refused(NoLine, desk.say, "trial a").line, "trial a")
        self.same(self.refused(NoLine, desk.say, "trial ").line, "trial ")
        self.same(self.refused(NoLine, desk.say, "trial  ").line, "trial  ")
        self.same(self.refused(NoLine, desk.say, "trial A ").line, "trial A ")

    def test_two_desks_keep_their_own(self):
        one, other = desk_of(a=TEXT), desk_of(b=YES)
        self.same((one.say("names"), other.say("names")), (["a"], ["b"]))
        one.say("clear")
        self.same(other.say("seen b"), ["2"])
        self.same(Desk().say("names"), [])

    def test_what_is_told_may_be_changed(self):
        desk = desk_of(a=TEXT, b=YES, c=RANKS)
        for line in (
            "names", "text a", "seen a", "share a", "spread a", "called a 1/2", "shift a 1", "stretch a 1/6", "pairs b 1/2", "power a 1/2 1", "looks a 2:1/2 4:1", "pour a b", "beside a b", "questions 1/2 a b",
        ):
            told = desk.say(line)
            kept = list(told)
            told.append("spoiled")
            told[0] = "spoiled"
            self.same(desk.say(line), kept)
            self.same(desk_of(a=TEXT, b=YES, c=RANKS).say(line), kept)
            self.assertTrue(all(type(text) is str for text in kept))
        for line in (f"trial a {TEXT}", "drop c", "clear", "names"):
            desk.say(line).append("spoiled")
        self.same(desk.say("names"), [])

    def test_refusals_are_of_this_package(self):
        desk = desk_of(a=TEXT)
        with self.assertRaises(DealError):
            desk.say("nothing")
        self.assertFalse(issubclass(NoLine, NoLevel))
