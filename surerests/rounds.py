"""Runs in rounds, and whether they come to rest."""

from surerests.errors import BadNumber, BadState, Settles
from surerests.rings import all_rings, can_be_odd, ring_arrows
from surerests.rules import copying
from surerests.wirings import is_whole

MOST_ROUNDS = 300


def run(rules, state, rounds):
    """A new list of the states of the run from a state, up to the one after so many rounds."""
    _check_state(rules, state)
    if not is_whole(rounds, 0, MOST_ROUNDS):
        raise BadNumber(rounds)
    states = [state]
    for _ in range(rounds):
        states.append(rules.next(states[-1]))
    return states


def course(rules, state):
    """How many states stand ahead of the first one that comes again, and after how many rounds it does."""
    _check_state(rules, state)
    places = {}
    while state not in places:
        places[state] = len(places)
        state = rules.next(state)
    return (places[state], len(places) - places[state])


def settles(wiring):
    """True if every run comes to rest for all rules for the wiring, and False otherwise."""
    return not any([_can_circle(wiring, ring) for ring in all_rings(wiring)])


def circling(wiring):
    """Rules for the wiring and a state from which the run does not come to rest."""
    rings = [ring for ring in all_rings(wiring) if _can_circle(wiring, ring)]
    if not rings:
        raise Settles()
    ring = rings[0]
    # If the ring is odd there is no state of rest; if it is even it has several parts,
    # and what one of them copies can go round without end.
    parity = 1 if can_be_odd(wiring, ring) else 0
    rules = copying(wiring, ring_arrows(wiring, ring, parity), 1)
    states = [state for state in wiring.states() if _goes_round(rules, state)]
    return (rules, states[0])


def check_circling(wiring, rules, state):
    """True if the rules are for the wiring and the run from the state does not come to rest, and False otherwise."""
    return rules.wiring == wiring and wiring.is_state(state) and _goes_round(rules, state)


def _check_state(rules, value):
    if not rules.wiring.is_state(value):
        raise BadState(value)


def _can_circle(wiring, ring):
    """True if some rules let levels go round this ring without end."""
    return len(ring) > 1 or can_be_odd(wiring, ring)


def _goes_round(rules, state):
    return course(rules, state)[1] > 1
