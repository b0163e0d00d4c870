"""Points 6 and 27: what rules are told by, their blocks, and whose the lists are."""

import unittest

from trialdeal.rules import Blocks, Coins, First, Pairs, Split

HALF = (1, 2)


def some_rules():
    """Made anew each time, so that two of them are made alike."""
    split, pairs, coins = Split(5, 2), Pairs(3, (1, 3)), Coins(4, (3, 7), 2)
    return [
        split, pairs, coins, Split(1, 0), Split(20, 20), Pairs(1, (99, 100)), Pairs(10, HALF), Coins(1, HALF, 1),
        Coins(20, HALF, 20), Blocks([split]), Blocks([coins, pairs, split]), Blocks([pairs, pairs]), Blocks([Split(1, 1)] * 6),
        First(split, 3), First(pairs, 6), First(coins, 0), First(Blocks([split, pairs, split]), 7), First(First(coins, 3), 2),
    ]


class ToldCase(unittest.TestCase):
    def same(self, told, wanted):
        """Alike in all kinds too: a truth is no number, a list no tuple."""
        self.assertEqual(repr(told), repr(wanted))


class Told(ToldCase):
    def test_splits_pairs_and_coins(self):
        self.same(Split(5, 2).told(), ("split", 5, 2))
        self.same(Split(1, 0).told(), ("split", 1, 0))
        self.same(Split(20, 20).told(), ("split", 20, 20))
        self.same(Pairs(3, (1, 3)).told(), ("pairs", 3, (1, 3)))
        self.same(Pairs(10, (99, 100)).told(), ("pairs", 10, (99, 100)))
        self.same(Coins(4, (3, 7), 2).told(), ("coins", 4, (3, 7), 2))
        self.same(Coins(1, HALF, 20).told(), ("coins", 1, (1, 2), 20))

    def test_blocks(self):
        split, pairs, coins = Split(5, 2), Pairs(3, (1, 3)), Coins(4, (3, 7), 2)
        self.same(Blocks([split]).told(), ("blocks", (("split", 5, 2),)))
        self.same(
            Blocks([coins, split, pairs, split]).told(),
            ("blocks", (("coins", 4, (3, 7), 2), ("split", 5, 2), ("pairs", 3, (1, 3)), ("split", 5, 2))),
        )
        self.same(Blocks([Split(1, 1)] * 6).told(), ("blocks", (("split", 1, 1),) * 6))

    def test_first_folk(self):
        split = Split(5, 2)
        self.same(First(split, 3).told(), ("first", ("split", 5, 2), 3))
        self.same(First(split, 0).told(), ("first", ("split", 5, 2), 0))
        self.same(First(split, 5).told(), ("first", ("split", 5, 2), 5))
        self.same(First(Pairs(2, HALF), 3).told(), ("first", ("pairs", 2, (1, 2)), 3))
        self.same(First(Coins(3, HALF, 1), 2).told(), ("first", ("coins", 3, (1, 2), 1), 2))
        self.same(
            First(Blocks([split, Split(1, 1)]), 6).told(), ("first", ("blocks", (("split", 5, 2), ("split", 1, 1))), 6),
        )
        self.same(First(First(split, 4), 1).told(), ("first", ("first", ("split", 5, 2), 4), 1))
        self.same(First(First(split, 4), 4).told(), ("first", ("first", ("split", 5, 2), 4), 4))
        self.same(
            First(First(First(split, 4), 2), 0).told(), ("first", ("first", ("first", ("split", 5, 2), 4), 2), 0),
        )

    def test_rules_made_alike_are_told_alike(self):
        for one, other in zip(some_rules(), some_rules()):
            self.same(one.told(), other.told())
            self.same(one.told(), one.told())


class BlocksTold(ToldCase):
    def test_one_list_of_all_folk(self):
        for folk in range(1, 21):
            self.same(Split(folk, 1).blocks(), [list(range(folk))])
            self.same(Coins(folk, HALF, 3).blocks(), [list(range(folk))])
        for pairs in range(1, 11):
            self.same(Pairs(pairs, HALF).blocks(), [list(range(2 * pairs))])

    def test_a_list_for_each_rule(self):
        split, pairs, coins = Split(3, 2), Pairs(2, HALF), Coins(2, HALF, 1)
        self.same(Blocks([split]).blocks(), [[0, 1, 2]])
        self.same(Blocks([split, pairs, coins]).blocks(), [[0, 1, 2], [3, 4, 5, 6], [7, 8]])
        self.same(Blocks([pairs, split]).blocks(), [[0, 1, 2, 3], [4, 5, 6]])
        self.same(Blocks([coins, coins, split]).blocks(), [[0, 1], [2, 3], [4, 5, 6]])
        self.same(Blocks([Split(1, 0)] * 6).blocks(), [[0], [1], [2], [3], [4], [5]])

    def test_first_folk_of_one_list(self):
        for rule in (Split(4, 2), Pairs(2, HALF), Coins(4, HALF, 2)):
            self.same([First(rule, many).blocks() for many in range(5)], [[], [[0]], [[0, 1]], [[0, 1, 2]], [[0, 1, 2, 3]]])

    def test_first_folk_of_several_lists(self):
        rule = Blocks([Split(2, 1), Pairs(1, HALF), Coins(1, HALF, 1)])
        wanted = [
            [], [[0]], [[0, 1]], [[0, 1], [2]], [[0, 1], [2, 3]], [[0, 1], [2, 3], [4]],
        ]
        self.same([First(rule, many).blocks() for many in range(6)], wanted)
        for many in range(6):
            for fewer in range(many + 1):
                self.same(First(First(rule, many), fewer).blocks(), wanted[fewer])


class WhoseTheListsAre(ToldCase):
    def states(self, rule):
        """All states that a rule comes to, with the folk's number."""
        found = [(rule.begin(), 0)]
        for at in range(rule.folk()):
            ahead = [state for state, place in found if place == at]
            behind = {row[2]: True for state in ahead for row in rule.steps(state, at)}
            found.extend((state, at + 1) for state in behind)
        return [(state, at) for state, at in found if at < rule.folk()]

    def whole(self, rule):
        steps = [(state, at, rule.steps(state, at)) for state, at in self.states(rule)]
        return repr((rule.folk(), rule.begin(), rule.told(), rule.blocks(), steps))

    def test_the_same_question_has_the_same_answer(self):
        for one, other in zip(some_rules(), some_rules()):
            self.assertEqual(self.whole(one), self.whole(one))
            self.assertEqual(self.whole(one), self.whole(other))

    def test_steps_are_new_and_the_askers_own(self):
        for rule in some_rules():
            ahead = self.whole(rule)
            for state, at in self.states(rule):
                told = rule.steps(state, at)
                self.assertIsNot(told, rule.steps(state, at))
                told.append((1, (1, 1), None))
                told[0] = None
                told.clear()
            self.assertEqual(self.whole(rule), ahead)

    def test_blocks_are_new_and_the_askers_own(self):
        for rule in some_rules():
            ahead = self.whole(rule)
            told = rule.blocks()
            self.assertIsNot(told, rule.blocks())
            for inner, again in zip(told, rule.blocks()):
                self.assertIsNot(inner, again)
                inner.append(99)
                inner[0] = None
            told.append([7])
            self.assertEqual(self.whole(rule), ahead)
            rule.blocks().clear()
            self.assertEqual(self.whole(rule), ahead)

    def test_blocks_of_first_folk_leave_the_whole_rule_alone(self):
        for rule in some_rules():
            first = First(rule, rule.folk())
            ahead = self.whole(rule), self.whole(first)
            for inner in first.blocks() + rule.blocks():
                inner.clear()
            for state, at in self.states(rule):
                first.steps(state, at).clear()
                rule.steps(state, at).clear()
            self.assertEqual((self.whole(rule), self.whole(first)), ahead)

    def test_blocks_of_blocks_leave_its_rules_alone(self):
        rules = [Split(3, 1), Pairs(1, HALF)]
        blocks = Blocks(rules)
        ahead = [self.whole(rule) for rule in rules]
        for inner in blocks.blocks():
            inner.clear()
        for state, at in self.states(blocks):
            blocks.steps(state, at).clear()
        self.assertEqual([self.whole(rule) for rule in rules], ahead)

    def test_a_list_that_was_handed_in_may_be_changed(self):
        split, pairs, coins = Split(3, 1), Pairs(2, HALF), Coins(2, HALF, 1)
        wanted = self.whole(Blocks([split, pairs]))

        def put(rules):
            rules[0] = coins

        changes = [
            lambda rules: rules.append(coins), lambda rules: rules.clear(), lambda rules: rules.reverse(),
            lambda rules: rules.insert(0, coins), put, lambda rules: rules.append(None),
        ]
        for change in changes:
            rules = [split, pairs]
            rule = Blocks(rules)
            first = First(rule, 4)
            wanted_first = self.whole(First(Blocks([split, pairs]), 4))
            change(rules)
            self.assertEqual(self.whole(rule), wanted)
            self.assertEqual(self.whole(first), wanted_first)

    def test_what_is_handed_in_is_not_changed(self):
        split, pairs = Split(3, 1), Pairs(2, HALF)
        rules = [split, pairs, split]
        rule = Blocks(rules)
        self.whole(rule)
        self.whole(First(rule, 5))
        self.assertEqual(len(rules), 3)
        self.assertTrue(rules[0] is split and rules[1] is pairs and rules[2] is split)
        self.assertEqual(self.whole(split), self.whole(Split(3, 1)))
        self.assertEqual(self.whole(pairs), self.whole(Pairs(2, HALF)))


if __name__ == "__main__":
    unittest.main()
