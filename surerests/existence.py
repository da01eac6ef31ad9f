"""At least one state of rest, whatever the rules are, or none for some rules."""

from surerests.errors import NoOdd
from surerests.rings import knots, odd_ring, ring_arrows
from surerests.rules import copying
from surerests.sides import sides_of, turned


def at_least_one(wiring):
    """True if all rules for the wiring have at least one state of rest, and False otherwise."""
    return odd_ring(wiring) is None


def no_rest(wiring):
    """Rules for the wiring that have no state of rest."""
    ring = odd_ring(wiring)
    if ring is None:
        raise NoOdd()
    return copying(wiring, ring_arrows(wiring, ring, 1), 1)


def climb(rules):
    """A new list of states that leads from the lowest state, by the sides, up to a state of rest."""
    return _way_to_rest(rules, [0 for _ in rules.wiring.parts])


def fall(rules):
    """A new list of states that leads from the highest state, by the sides, down to a state of rest."""
    return _way_to_rest(rules, [rules.wiring.top(name) for name in rules.wiring.parts])


def find_rest(rules):
    """A state of rest."""
    return climb(rules)[-1]


def _way_to_rest(rules, heights):
    """States that lead to a state of rest from the one with these levels, counted from the top for the side 1."""
    wiring = rules.wiring
    order = knots(wiring)
    states = [turned(wiring, sides_of(wiring), tuple(heights))]
    # No knot acts on an earlier one, so the earlier ones keep still, and within a knot
    # the levels go on in one direction alone: the way ends.
    while not rules.rests(states[-1]):
        states.append(_after_one_knot(rules, order, states[-1]))
    return states


def _after_one_knot(rules, order, state):
    """The state in which the first knot that would change has its next levels, and all others stay."""
    parts = rules.wiring.parts
    following = rules.next(state)
    changed = [name for name, level, after in zip(parts, state, following) if level != after]
    moving = [knot for knot in order if any([name in changed for name in knot])][0]
    return tuple([after if name in moving else level for name, level, after in zip(parts, state, following)])
