"""Worlds: functions that tell of a folk what would come of it under hand 1, and what under hand 0."""

from trialdeal.dealings import hand_of, need_hands
from trialdeal.errors import NoWorld
from trialdeal.outcomes import is_outcome
from trialdeal.rules import MOST_FOLK, need_number
from trialdeal.words import is_whole


def is_two(thing):
    """Whether a thing is a tuple of two."""
    return isinstance(thing, tuple) and len(thing) == 2


def world_of(listing):
    """The world that a list of tuples of two outcomes tells."""
    kept = tuple(listing)

    def world(at):
        return kept[at] if is_whole(at, 0, len(kept) - 1) else None

    return world


def shifted_world(outcomes, shift):
    """The world in which these outcomes come under hand 0, and under hand 1 the shift more."""
    return world_of([((number + shift, sure), (number, sure)) for number, sure in outcomes])


def spared_world(world, few):
    """The world in which hand 1 changes nothing for few of the folk."""
    kept = tuple(few)

    def spared(at):
        told = world(at)
        # What tells no two outcomes is told on as it is.
        return (told[1], told[1]) if at in kept and is_two(told) else told

    return spared


def turned_world(world):
    """The world in which what would come under either hand is exchanged."""

    def turned(at):
        told = world(at)
        return (told[1], told[0]) if is_two(told) else told

    return turned


def all_told(folk, world):
    """What a world tells of each of so many folk, a list."""
    told = []
    for at in range(folk):
        both = world(at)
        if not is_two(both) or not is_outcome(both[0]) or not is_outcome(both[1]):
            raise NoWorld(at)
        told.append(both)
    return told


def seen_of(told, dealing):
    """The outcomes that are seen under a dealing, of what a world told of all folk."""
    return [both[1 - hand_of(dealing, at)] for at, both in enumerate(told)]


def outcomes_under(folk, world, dealing):
    """The outcomes of so many folk that would be seen under a dealing."""
    need_number(folk, 1, MOST_FOLK)
    need_hands(dealing, folk)
    return seen_of(all_told(folk, world), dealing)
