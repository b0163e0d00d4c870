"""Points 7 and 11: the refusals, their classes and their fields."""

import unittest

from trialdeal import errors
from trialdeal.rules import Split

FIELDS = {
    "NoShare": "found",
    "NoNumber": "found",
    "NoText": "found",
    "NoFolk": "found",
    "NoWeights": "found",
    "NoDealing": "found",
    "NoLevel": "found",
    "NoQuestions": "found",
    "NoChoice": "found",
    "NoListing": "found",
    "NoTrials": "found",
    "NoRule": "line",
    "NoLine": "line",
    "NoOutcome": "place",
    "NotSure": "place",
    "NoYes": "place",
    "NoWorld": "place",
    "NoPairs": "block",
    "NoLooks": "look",
    "TooMany": "many",
}
REFUSALS = {name: getattr(errors, name) for name in FIELDS}

THINGS = [
    0, -1, 21, 10 ** 30 - 1, 10 ** 5000, True, False, None, "", "a text", "3/8\n", [], [1, [2]], (), (1, 2), ([1], 2),
    {}, {"a": [1]}, {(1, 2): None}, Split(2, 1), [Split(2, 1)], errors.DealError("why"), errors.NoShare(3),
]


class Classes(unittest.TestCase):
    def test_there_are_twenty(self):
        self.assertEqual(len(set(REFUSALS.values())), 20)

    def test_deal_error_stands_under_value_error(self):
        self.assertTrue(issubclass(errors.DealError, ValueError))

    def test_each_stands_straight_under_deal_error(self):
        for name, refusal in REFUSALS.items():
            with self.subTest(name):
                self.assertEqual(refusal.__bases__, (errors.DealError,))
                self.assertEqual(refusal.__name__, name)

    def test_none_stands_under_another_one(self):
        for one in REFUSALS.values():
            for other in REFUSALS.values():
                if one is not other:
                    self.assertFalse(issubclass(one, other), (one, other))

    def test_each_can_be_taken_as_itself_and_as_any_refusal(self):
        for name, refusal in REFUSALS.items():
            for taken in (refusal, errors.DealError, ValueError):
                with self.subTest(name, taken=taken):
                    with self.assertRaises(taken) as caught:
                        raise refusal(7)
                    self.assertIs(type(caught.exception), refusal)


class Fields(unittest.TestCase):
    def test_the_field_is_the_very_thing(self):
        for name, field in FIELDS.items():
            for thing in THINGS:
                with self.subTest(name):
                    self.assertIs(getattr(REFUSALS[name](thing), field), thing)

    def test_the_field_is_the_only_one(self):
        for name, field in FIELDS.items():
            made = REFUSALS[name](7)
            for other in set(FIELDS.values()) - {field}:
                self.assertFalse(hasattr(made, other), (name, other))

    def test_a_list_that_is_kept_is_no_copy(self):
        for name, field in FIELDS.items():
            thing = [1, [2]]
            made = REFUSALS[name](thing)
            thing[1].append(3)
            self.assertEqual(getattr(made, field), [1, [2, 3]], name)

    def test_what_it_was_made_of_is_not_changed(self):
        for name in FIELDS:
            thing = {"a": [1, 2], "b": (3, [4])}
            REFUSALS[name](thing)
            self.assertEqual(thing, {"a": [1, 2], "b": (3, [4])}, name)

    def test_two_of_one_class_keep_their_own(self):
        for name, field in FIELDS.items():
            one, other = REFUSALS[name]("one"), REFUSALS[name]("other")
            self.assertEqual((getattr(one, field), getattr(other, field)), ("one", "other"))

    def test_the_fields_stay_behind_raising(self):
        for name, field in FIELDS.items():
            thing = ["raised"]
            try:
                raise REFUSALS[name](thing)
            except errors.DealError as refusal:
                self.assertIs(getattr(refusal, field), thing)

    def test_deal_error_is_made_of_a_text_and_has_no_field(self):
        for text in ("", "some words", "two\nlines"):
            made = errors.DealError(text)
            for field in set(FIELDS.values()):
                self.assertFalse(hasattr(made, field), field)
            self.assertEqual(vars(made), {})


if __name__ == "__main__":
    unittest.main()
