"""Facts: levels that parts had behind states, and what they tell of all rules that fit them."""

from surerests.errors import BadFact, BadState, Clash, UnknownName
from surerests.rules import Rules, source_choices
from surerests.wirings import is_whole


def clash(wiring, facts):
    """The first two of the facts that clash, the one with the greater level first, or None if no two of them do."""
    check_facts(wiring, facts)
    about = {part: _facts_about(facts, part) for part in wiring.parts}
    signs = {part: _signs_to(wiring, part) for part in wiring.parts}
    for fact in facts:
        state, name, level = fact
        against = [other for other in about[name] if other[2] < level and _is_below(signs[name], state, other[0])]
        if against:
            return (fact, against[0])
    return None


def fits_facts(rules, facts):
    """True if the rules fit all of the facts, and False otherwise."""
    check_facts(rules.wiring, facts)
    parts = rules.wiring.parts
    return all([rules.next(state)[parts.index(name)] == level for state, name, level in facts])


def least_level(wiring, facts, name, state):
    """The least level that a part has behind a state by some rules that fit the facts."""
    check_no_clash(wiring, facts)
    return bounds_behind(wiring, facts, name, state)[0]


def greatest_level(wiring, facts, name, state):
    """The greatest level that a part has behind a state by some rules that fit the facts."""
    check_no_clash(wiring, facts)
    return bounds_behind(wiring, facts, name, state)[1]


def least_rules(wiring, facts):
    """The rules by which each part always has its least level."""
    check_no_clash(wiring, facts)
    return Rules(wiring, {name: _table_of_bounds(wiring, facts, name, 0) for name in wiring.parts})


def greatest_rules(wiring, facts):
    """The rules by which each part always has its greatest level."""
    check_no_clash(wiring, facts)
    return Rules(wiring, {name: _table_of_bounds(wiring, facts, name, 1) for name in wiring.parts})


def surely_rests(wiring, facts, state):
    """True if the state is a state of rest by all rules that fit the facts, and False otherwise."""
    check_no_clash(wiring, facts)
    bounds = _all_bounds(wiring, facts, state)
    return all([least == level == greatest for level, (least, greatest) in zip(state, bounds)])


def may_rest(wiring, facts, state):
    """True if the state is a state of rest by some rules that fit the facts, and False otherwise."""
    check_no_clash(wiring, facts)
    return can_rest(wiring, facts, state)


def is_fact(wiring, value):
    """True if the value, which may be any value, is a fact of the wiring, and False otherwise."""
    if not isinstance(value, tuple) or len(value) != 3:
        return False
    state, name, level = value
    return wiring.is_state(state) and name in wiring.parts and is_whole(level, 0, wiring.top(name))


def check_facts(wiring, facts):
    """Raises BadFact with the first item that is no fact of the wiring."""
    for fact in facts:
        if not is_fact(wiring, fact):
            raise BadFact(fact)


def check_no_clash(wiring, facts):
    """Raises BadFact as above, and then Clash if two of the facts clash."""
    clashing = clash(wiring, facts)
    if clashing is not None:
        raise Clash(clashing)


def bounds_behind(wiring, facts, name, state):
    """The least and the greatest level of a part behind a state, by facts of which it is known that no two clash."""
    if name not in wiring.parts:
        raise UnknownName(name)
    if not wiring.is_state(state):
        raise BadState(state)
    signs = _signs_to(wiring, name)
    about = _facts_about(facts, name)
    least = max([level for other, _, level in about if _is_below(signs, other, state)], default=0)
    greatest = min([level for other, _, level in about if _is_below(signs, state, other)], default=wiring.top(name))
    return (least, greatest)


def can_rest(wiring, facts, state):
    """What may_rest tells, for facts of which it is known that no two clash."""
    # Each part has its rule for itself, so levels that are possible one by one are possible at once.
    bounds = _all_bounds(wiring, facts, state)
    return all([least <= level <= greatest for level, (least, greatest) in zip(state, bounds)])


def _all_bounds(wiring, facts, state):
    return [bounds_behind(wiring, facts, name, state) for name in wiring.parts]


def _signs_to(wiring, name):
    """The signs of the arrows from each of the parts to this one, None where there is no arrow."""
    return [wiring.sign(source, name) for source in wiring.parts]


def _is_below(signs, one, other):
    """True if one state is below the other one for a part with arrows of these signs to it."""
    for sign, low, high in zip(signs, one, other):
        if low > high and sign in ("+", "?"):
            return False
        if low < high and sign in ("-", "?"):
            return False
    return True


def _facts_about(facts, name):
    return [fact for fact in facts if fact[1] == name]


def _table_of_bounds(wiring, facts, name, place):
    """The least levels of a part for all choices of levels of its sources, or the greatest ones for the place 1."""
    about = _facts_about(facts, name)
    return {
        choice: bounds_behind(wiring, about, name, _state_with(wiring, name, choice))[place]
        for choice in source_choices(wiring, name)
    }


def _state_with(wiring, name, choice):
    """A state in which the sources of a part have these levels."""
    levels = dict(zip(wiring.sources(name), choice))
    return tuple([levels.get(part, 0) for part in wiring.parts])
