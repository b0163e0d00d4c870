"""Points 4, 31 and 32: outcomes, how they stand to one another, and their texts."""

import unittest

from trialdeal.errors import DealError, NoFolk, NoOutcome, NoText
from trialdeal.outcomes import is_outcome, need_outcomes, outcomes_in, outcomes_text, stands_to
from trialdeal.rules import Split

NO_OUTCOMES = [
    (100, True), (-100, True), (100, False), (-100, False), (10 ** 30 - 1, True), (1 - 10 ** 30, False),
    (True, True), (False, True), (True, False), (False, False), (1, 1), (1, 0), (0, 0), (7, None), (7, "True"), (7, ""), (7, []), (7, (True,)),
    (None, True), ("7", True), ("", False), ([7], True), ((7,), True), ((7, True), True), (7, (7, True)), (Split(2, 1), True), (7, Split(2, 1)),
    (True, 7), (7,), (True,), (), (7, True, True), (7, True, 7), (7, 7, True), ((7, True),), [7, True], [], [7], [(7, True)],
    {7: True}, {}, {"number": 7, "sure": True}, 7, 0, -1, True, False, None, "", "7", "7+", "(7, True)", Split(2, 1), DealError("7"),
]
NO_LISTS = [
    None, True, False, 0, 7, "", "7", "7 8+", (), ((7, True),), ((7, True), (8, False)), (7, True), {}, {0: (7, True)}, Split(2, 1),
    DealError("7"), 10 ** 29,
]
NO_WORDS = [
    "+", "-", "-+", "+-", "++", "7++", "+7", "+7+", "-0", "-0+", "00", "07", "-07", "007+", "100", "-100", "100+", "-100+", "999", "7-", "7+-",
    "--7", "- 7"[:1], "1.", "1.5", "7/1", "1/2", "x", "x7", "7x", "7,", "0x7", "1_0", "None", "True", "\n", "7\n", "\n7", "7\n8", "(7,", "True)",
    "9" * 900, "-" + "9" * 900, "~", "\"7\"", "'7'", "7+8", "*", "1e1", "+0", "0-",
]


class OutcomeCase(unittest.TestCase):
    def same(self, told, wanted):
        self.assertEqual(repr(told), repr(wanted))

    def refused(self, refusal, call, *things):
        with self.assertRaises(DealError) as caught:
            call(*things)
        self.assertIs(type(caught.exception), refusal, repr(things)[:80])
        return caught.exception

    def at_place(self, place, call, *things):
        self.same(self.refused(NoOutcome, call, *things).place, place)


class WhatOutcomesAre(OutcomeCase):
    def test_all_outcomes(self):
        for number in range(-99, 100):
            for sure in (True, False):
                self.assertIs(is_outcome((number, sure)), True)

    def test_what_are_none(self):
        for thing in NO_OUTCOMES + NO_LISTS:
            self.assertIs(is_outcome(thing), thing == (7, True), thing)

    def test_lists_of_them(self):
        for thing in ([], [(7, True)], [(-99, False), (99, True)], [(0, True)] * 20, [(0, True)] * 21, [(0, False)] * 1100):
            self.assertIs(need_outcomes(thing), None)

    def test_what_is_no_list(self):
        for thing in NO_LISTS:
            for call in (need_outcomes, outcomes_text):
                self.assertIs(self.refused(NoFolk, call, thing).found, thing)

    def test_the_first_place_that_is_none(self):
        good = (7, True)
        for other in NO_OUTCOMES:
            for call in (need_outcomes, outcomes_text):
                self.at_place(0, call, [other])
                self.at_place(0, call, [other, good])
                self.at_place(1, call, [good, other])
                self.at_place(1, call, [good, other, other, good])
                self.at_place(20, call, [good] * 20 + [other])
        self.at_place(1099, need_outcomes, [good] * 1099 + [None])

    def test_what_is_handed_in_stays(self):
        thing = [(7, True), (8, False)]
        need_outcomes(thing)
        outcomes_text(thing)
        self.same(thing, [(7, True), (8, False)])
        thing = [(7, True), [8, False]]
        self.at_place(1, need_outcomes, thing)
        self.same(thing, [(7, True), [8, False]])


class HowTheyStand(OutcomeCase):
    def test_all_cases_by_what_they_may_be(self):
        """Whatever an outcome that is not sure may be: tried with itself, and with far more."""
        numbers = (-99, -98, -1, 0, 1, 2, 98, 99)
        for one in [(number, sure) for number in numbers for sure in (True, False)]:
            for other in [(number, sure) for number in numbers for sure in (True, False)]:
                ones = [one[0]] if one[1] else [one[0], 1000, 3000]
                others = [other[0]] if other[1] else [other[0], 1000, 3000]
                if all(a > b for a in ones for b in others):
                    wanted = 1
                elif all(b > a for a in ones for b in others):
                    wanted = -1
                else:
                    wanted = 0
                self.same(stands_to(one, other), wanted)

    def test_plain_ones(self):
        self.same(stands_to((7, True), (6, True)), 1)
        self.same(stands_to((6, True), (7, True)), -1)
        self.same(stands_to((7, True), (7, True)), 0)
        self.same(stands_to((7, False), (6, True)), 1)
        self.same(stands_to((7, True), (6, False)), 0)
        self.same(stands_to((7, False), (6, False)), 0)
        self.same(stands_to((6, False), (7, True)), 0)
        self.same(stands_to((6, True), (7, False)), -1)
        self.same(stands_to((6, False), (7, False)), 0)
        self.same(stands_to((7, False), (7, True)), 0)
        self.same(stands_to((7, True), (7, False)), 0)
        self.same(stands_to((7, False), (7, False)), 0)

    def test_what_is_no_outcome(self):
        good = (7, True)
        for thing in NO_OUTCOMES:
            self.at_place(0, stands_to, thing, good)
            self.at_place(1, stands_to, good, thing)
            self.at_place(0, stands_to, thing, thing)
            self.at_place(0, stands_to, thing, None)


class Texts(OutcomeCase):
    def both_ways(self, outcomes, text):
        self.same(outcomes_text(outcomes), text)
        self.same(outcomes_in(text), outcomes)

    def test_each_outcome(self):
        for number in range(-99, 100):
            self.both_ways([(number, True)], str(number))
            self.both_ways([(number, False)], str(number) + "+")

    def test_several(self):
        self.both_ways([(7, True), (-3, True), (12, False)], "7 -3 12+")
        self.both_ways([(0, False), (0, True)], "0+ 0")
        self.both_ways([(-99, False), (99, False), (-1, True)], "-99+ 99+ -1")
        self.both_ways([(1, True)] * 20, " ".join(["1"] * 20))
        every = [(number, sure) for number in range(-99, 100) for sure in (True, False)]
        self.same(outcomes_in(outcomes_text(every)), every)
        self.both_ways([(-9, False)] * 900, " ".join(["-9+"] * 900))

    def test_none(self):
        self.both_ways([], "")

    def test_a_list_that_is_changed(self):
        told = outcomes_in("7 8+")
        told.append(None)
        self.same(outcomes_in("7 8+"), [(7, True), (8, False)])
        none = outcomes_in("")
        none.append(None)
        self.same(outcomes_in(""), [])

    def test_what_is_no_text(self):
        for thing in (
            None, True, False, 0, 7, -7, 10 ** 29, [], ["7"], [(7, True)], (), ("7",), (7, True), {}, {"7": "8"}, Split(2, 1), DealError("7"),
        ):
            self.assertIs(self.refused(NoText, outcomes_in, thing).found, thing)

    def test_words_that_write_none(self):
        for word in NO_WORDS:
            self.at_place(0, outcomes_in, word)
            self.at_place(0, outcomes_in, word + " 7")
            self.at_place(1, outcomes_in, "7 " + word)
            self.at_place(2, outcomes_in, "7 8+ " + word + " 9 " + word)

    def test_blanks(self):
        self.at_place(0, outcomes_in, " ")
        self.at_place(0, outcomes_in, "  ")
        self.at_place(0, outcomes_in, " 7")
        self.at_place(1, outcomes_in, "7 ")
        self.at_place(1, outcomes_in, "7  8")
        self.at_place(2, outcomes_in, "7 8+ ")
        self.at_place(1, outcomes_in, "7 +")
        self.at_place(1, outcomes_in, "7 + 8")
        self.at_place(0, outcomes_in, "- 7")
        self.at_place(2, outcomes_in, "7 8  9  1")

    def test_line_feeds(self):
        self.at_place(0, outcomes_in, "\n")
        self.at_place(0, outcomes_in, "7\n8")
        self.at_place(1, outcomes_in, "7 8\n")
        self.at_place(1, outcomes_in, "7 \n8")
        self.at_place(0, outcomes_in, "\n7 8")


if __name__ == "__main__":
    unittest.main()
