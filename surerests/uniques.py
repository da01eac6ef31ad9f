"""At most one state of rest, whatever the rules are, or two of them for some rules."""

from surerests.errors import BadState, NoEven
from surerests.rings import even_ring, ring_arrows
from surerests.rules import all_rests, copying


def at_most_one(wiring):
    """True if all rules for the wiring have at most one state of rest, and False otherwise."""
    return even_ring(wiring) is None


def two_rests(wiring):
    """Rules for the wiring and two states of rest of them, the smaller one first."""
    ring = even_ring(wiring)
    if ring is None:
        raise NoEven()
    rules = copying(wiring, ring_arrows(wiring, ring, 0), 1)
    # Around the ring there are only the levels 0 and 1, and either one of its first part tells all others.
    one, other = all_rests(rules)
    return (rules, one, other)


def check_two(wiring, rules, one, other):
    """True if these are two states of rest of these rules, and the rules are for the wiring, and False otherwise."""
    return rules.wiring == wiring and _is_rest(rules, one) and _is_rest(rules, other) and one != other


def ring_between(rules, one, other):
    """A ring that can be even, and all parts of which have different levels in the two states of rest."""
    if not _is_rest(rules, one):
        raise BadState(one)
    if not _is_rest(rules, other) or one == other:
        raise BadState(other)
    parts = rules.wiring.parts
    changed = [name for name, level, turn in zip(parts, one, other) if level != turn]
    # The rings of the wiring of these parts are those of the whole one that have no other part.
    return even_ring(rules.wiring.only(changed))


def _is_rest(rules, value):
    return rules.wiring.is_state(value) and rules.rests(value)
