"""Points 6, 101 and 102: worlds, and the outcomes that would be seen under a dealing."""

from itertools import product

from gonethrough import ALIKE, NO_NUMBERS, SURE, UNSURE, DealCase
from trialdeal.errors import NoDealing, NoNumber, NoWorld
from trialdeal.worlds import outcomes_under, shifted_world, spared_world, turned_world, world_of

BOTH = [((3, True), (1, True)), ((0, False), (-5, True)), ((99, True), (-99, False)), ((2, True), (2, True))]


def asked(world, many):
    return [world(at) for at in range(many)]


class Worlds(DealCase):
    def test_of_a_listing(self):
        self.same(asked(world_of(BOTH), 7), BOTH + [None] * 3)
        self.same(asked(world_of([]), 2), [None, None])
        self.same(world_of(BOTH * 5)(19), BOTH[3])

    def test_shifted(self):
        self.same(asked(shifted_world([(3, True), (-1, False)], 4), 3), [((7, True), (3, True)), ((3, False), (-1, False)), None])
        self.same(asked(shifted_world([(3, True), (-1, False)], 0), 2), [((3, True), (3, True)), ((-1, False), (-1, False))])
        self.same(asked(shifted_world([(99, True), (-99, True)], 1), 2), [((100, True), (99, True)), ((-98, True), (-99, True))])
        self.same(asked(shifted_world([(99, True), (-99, True)], -10 ** 29), 2), [((99 - 10 ** 29, True), (99, True)), ((-99 - 10 ** 29, True), (-99, True))])
        self.same(asked(shifted_world([], 5), 1), [None])

    def test_spared(self):
        self.same(asked(spared_world(world_of(BOTH), [1, 2]), 6), [BOTH[0], ((-5, True), (-5, True)), ((-99, False), (-99, False)), BOTH[3], None, None])
        self.same(asked(spared_world(world_of(BOTH), []), 5), BOTH + [None])
        self.same(asked(spared_world(world_of(BOTH), [4, 5, 19, 1000]), 6), BOTH + [None, None])
        self.same(asked(spared_world(shifted_world(SURE, 200), [0, 1, 2, 3, 4, 5, 6, 7]), 8), [(each, each) for each in SURE])
        self.same(asked(spared_world(spared_world(world_of(BOTH), [0]), [2]), 3), [((1, True), (1, True)), BOTH[1], ((-99, False), (-99, False))])

    def test_turned(self):
        self.same(asked(turned_world(world_of(BOTH)), 5), [(zero, one) for one, zero in BOTH] + [None])
        self.same(asked(turned_world(turned_world(world_of(BOTH))), 5), BOTH + [None])
        self.same(asked(turned_world(spared_world(world_of(BOTH), [0, 7])), 8), [((1, True), (1, True))] + [(zero, one) for one, zero in BOTH[1:]] + [None] * 4)
        self.same(asked(spared_world(turned_world(world_of(BOTH)), [0, 7]), 8), [((3, True), (3, True))] + [(zero, one) for one, zero in BOTH[1:]] + [None] * 4)

    def test_other_functions(self):
        def even_ones(at):
            return ((at, True), (-at, at % 2 == 0))

        self.same(asked(turned_world(even_ones), 3), [((0, True), (0, True)), ((-1, False), (1, True)), ((-2, True), (2, True))])
        self.same(asked(spared_world(even_ones, [1, 50]), 2), [((0, True), (0, True)), ((-1, False), (-1, False))])
        self.same(spared_world(even_ones, [1, 50])(50), ((-50, True), (-50, True)))

    def test_lists_changed_behind(self):
        both, outcomes, few = list(BOTH), list(SURE), [1, 2]
        worlds = [world_of(both), shifted_world(outcomes, 3), spared_world(world_of(BOTH), few), turned_world(world_of(both))]
        told = [asked(world, 9) for world in worlds]
        self.same([asked(world, 9) for world in worlds], told)
        both[0] = ((9, True), (9, True))
        both.append(BOTH[0])
        outcomes[1] = (77, True)
        outcomes.clear()
        few[0] = 0
        few.append(3)
        self.same([asked(world, 9) for world in worlds], told)

    def test_handed_in_stays(self):
        both, outcomes, few = list(BOTH), list(SURE), [1, 2]
        asked(spared_world(world_of(both), few), 5)
        asked(turned_world(shifted_world(outcomes, 3)), 5)
        self.same((both, outcomes, few), (BOTH, SURE, [1, 2]))


class Under(DealCase):
    def test_ordinary(self):
        for folk in (1, 2, 3, 4):
            for dealing in range(2 ** folk):
                wanted = [BOTH[at][0 if dealing >> at & 1 else 1] for at in range(folk)]
                self.same(outcomes_under(folk, world_of(BOTH), dealing), wanted)
                self.same(outcomes_under(folk, turned_world(world_of(BOTH)), 2 ** folk - 1 - dealing), wanted)

    def test_twenty_folk(self):
        self.same(outcomes_under(20, shifted_world(ALIKE * 3, 2), 2 ** 20 - 2), [(5, True)] + [(7, True)] * 19)

    def test_refused_in_their_order(self):
        for thing in NO_NUMBERS + [0, -1, 21, 22]:
            self.assertIs(self.refused(NoNumber, lambda *things: outcomes_under(things[0], world_of([]), things[1]), thing, None).found, thing)
        for folk in (1, 3, 20):
            for thing in NO_NUMBERS + [-1, 2 ** folk, 2 ** folk + 1]:
                self.assertIs(self.refused(NoDealing, lambda *things: outcomes_under(things[0], world_of([]), things[1]), folk, thing).found, thing)

    def test_the_first_folk_without_two_outcomes(self):
        for world, folk, place in (
            (world_of(BOTH), 5, 4), (world_of(BOTH), 20, 4), (world_of([]), 1, 0), (spared_world(world_of(BOTH), [4, 5]), 6, 4), (turned_world(world_of(BOTH)), 6, 4),
            (shifted_world([(3, True), (98, True), (99, True)], 2), 3, 1), (shifted_world([(3, True), (-99, True)], -1), 2, 1), (turned_world(shifted_world([(3, True), (99, True)], 1)), 2, 1),
        ):
            for dealing in (0, 2 ** folk - 1):
                self.same(self.refused(NoWorld, lambda *things: outcomes_under(things[0], world, things[1]), folk, dealing).place, place)
        self.same(outcomes_under(2, spared_world(shifted_world([(3, True), (99, True)], 1), [1]), 3), [(4, True), (99, True)])

    def test_things_that_are_no_two_outcomes(self):
        good = (1, True)
        for thing in NO_NUMBERS + [0, good, [good, good], (good,), (good, good, good), (good, None), (None, good), (good, (100, True)), ((1, 1), good), ((True, True), good), (good, [1, True]), ((1,), (2,))]:
            for dealing in range(8):
                refusal = self.refused(NoWorld, lambda told: outcomes_under(3, lambda at: told if at == 1 else (good, good), dealing), thing)
                self.same(refusal.place, 1)
                self.same(self.refused(NoWorld, lambda told: outcomes_under(3, world_of([(good, good)] * 2 + [told]), dealing), thing).place, 2)
            for turned in (turned_world(lambda at: thing), turned_world(turned_world(lambda at: thing))):
                self.same(self.refused(NoWorld, lambda *things: outcomes_under(1, turned, 0)).place, 0)

    def test_both_are_looked_at(self):
        world = world_of([((1, True), (2, True)), ((1, True), (100, True)), ((100, True), (1, True))])
        for dealing in range(8):
            self.same(self.refused(NoWorld, lambda *things: outcomes_under(3, world, dealing)).place, 1)

    def test_what_is_told_may_be_changed(self):
        world = world_of(BOTH)
        self.untouched(lambda: outcomes_under(4, world, 5))

    def test_the_same_of_worlds_made_alike(self):
        for dealing, shift in product(range(16), (-3, 0, 7)):
            self.same(outcomes_under(4, shifted_world(UNSURE, shift), dealing), outcomes_under(4, shifted_world(UNSURE[:4], shift), dealing))
