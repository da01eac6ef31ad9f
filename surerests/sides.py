"""Sides of the parts, and an order of the states by them."""

from surerests.errors import BadNumber, BadState, HasOdd, UnlikeParts
from surerests.rings import knots, odd_ring
from surerests.wirings import is_whole


def check_sides(wiring, sides):
    """True if the sides are 0 or 1 for just all parts and right for the wiring, and False otherwise."""
    if _names_of(sides) != wiring.parts:
        return False
    if not all([_is_side(sides[name]) for name in wiring.parts]):
        return False
    return all([
        sign == _sign_between(sides[source], sides[target])
        for source, target, sign in _inner_arrows(wiring)
    ])


def sides_of(wiring):
    """The right sides in which the first part of each knot has the number 0."""
    ring = odd_ring(wiring)
    if ring is not None:
        raise HasOdd(ring)
    sides = {knot[0]: 0 for knot in knots(wiring)}
    arrows = _inner_arrows(wiring)
    # Arrows within a knot lead from its first part to all others, so each pass gives sides to more parts.
    # No ring can be odd, so all arrows to a part give it the same side.
    while len(sides) < len(wiring.parts):
        for source, target, sign in arrows:
            if source in sides:
                sides[target] = sides[source] if sign == "+" else 1 - sides[source]
    return {name: sides[name] for name in wiring.parts}


def turned(wiring, sides, state):
    """The levels of a state, in which those of the parts with the side 1 are counted from the top."""
    names = _names_of(sides)
    if names != wiring.parts:
        raise UnlikeParts(names)
    for name in wiring.parts:
        if not _is_side(sides[name]):
            raise BadNumber(sides[name])
    if not wiring.is_state(state):
        raise BadState(state)
    return tuple([
        wiring.top(name) - level if sides[name] else level
        for name, level in zip(wiring.parts, state)
    ])


def is_under(wiring, sides, one, other):
    """True if no number of one turned state is greater than that of the other, and False otherwise."""
    lower = turned(wiring, sides, one)
    upper = turned(wiring, sides, other)
    return all([low <= high for low, high in zip(lower, upper)])


def _names_of(sides):
    return tuple(sorted(sides))


def _is_side(value):
    return is_whole(value, 0, 1)


def _sign_between(one, other):
    """The sign that is right between parts with these sides."""
    return "+" if one == other else "-"


def _inner_arrows(wiring):
    """The arrows between two parts of the same knot."""
    homes = {name: knot for knot in knots(wiring) for name in knot}
    return [arrow for arrow in wiring.arrows if homes[arrow[0]] == homes[arrow[1]]]
