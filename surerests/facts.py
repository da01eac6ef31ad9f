"""Facts: levels that parts had behind states, and what they tell of all rules that fit them."""

from surerests.errors import BadFact, BadState, Clash, UnknownName
from surerests.rules import Rules, source_choices, source_places
from surerests.wirings import is_whole


def clash(wiring, facts):
    """The first two of the facts that clash, the one with the greater level first, or None if no two of them do."""
    check_facts(wiring, facts)
    greatest = {name: _greatest_levels(wiring, facts, name) for name in sorted({fact[1] for fact in facts})}
    for fact in facts:
        state, name, level = fact
        if level > greatest[name][_choice(wiring, name, state)]:
            return (fact, _first_against(wiring, facts, fact))
    return None


def fits_facts(rules, facts):
    """True if the rules fit all of the facts, and False otherwise."""
    check_facts(rules.wiring, facts)
    parts = rules.wiring.parts
    return all([rules.next(state)[parts.index(name)] == level for state, name, level in facts])


def least_level(wiring, facts, name, state):
    """The least level that a part has behind a state by some rules that fit the facts."""
    check_no_clash(wiring, facts)
    return bounds_behind(wiring, facts, name, state)[0]


def greatest_level(wiring, facts, name, state):
    """The greatest level that a part has behind a state by some rules that fit the facts."""
    check_no_clash(wiring, facts)
    return bounds_behind(wiring, facts, name, state)[1]


def least_rules(wiring, facts):
    """The rules by which each part always has its least level."""
    check_no_clash(wiring, facts)
    return Rules(wiring, {name: _least_levels(wiring, facts, name) for name in wiring.parts})


def greatest_rules(wiring, facts):
    """The rules by which each part always has its greatest level."""
    check_no_clash(wiring, facts)
    return Rules(wiring, {name: _greatest_levels(wiring, facts, name) for name in wiring.parts})


def surely_rests(wiring, facts, state):
    """True if the state is a state of rest by all rules that fit the facts, and False otherwise."""
    check_no_clash(wiring, facts)
    bounds = _all_bounds(wiring, facts, state)
    return all([least == level == greatest for level, (least, greatest) in zip(state, bounds)])


def may_rest(wiring, facts, state):
    """True if the state is a state of rest by some rules that fit the facts, and False otherwise."""
    check_no_clash(wiring, facts)
    return can_rest(wiring, facts, state)


def is_fact(wiring, value):
    """True if the value, which may be any value, is a fact of the wiring, and False otherwise."""
    if not isinstance(value, tuple) or len(value) != 3:
        return False
    state, name, level = value
    return wiring.is_state(state) and name in wiring.parts and is_whole(level, 0, wiring.top(name))


def check_facts(wiring, facts):
    """Raises BadFact with the first item that is no fact of the wiring."""
    for fact in facts:
        if not is_fact(wiring, fact):
            raise BadFact(fact)


def check_no_clash(wiring, facts):
    """Raises BadFact as above, and then Clash if two of the facts clash."""
    clashing = clash(wiring, facts)
    if clashing is not None:
        raise Clash(clashing)


def bounds_behind(wiring, facts, name, state):
    """The least and the greatest level of a part behind a state, by facts of which it is known that no two clash."""
    if name not in wiring.parts:
        raise UnknownName(name)
    if not wiring.is_state(state):
        raise BadState(state)
    signs = _signs_to(wiring, name)
    told = [(other, level) for other, part, level in facts if part == name]
    least = max([level for other, level in told if _is_below(signs, other, state)], default=0)
    greatest = min([level for other, level in told if _is_below(signs, state, other)], default=wiring.top(name))
    return (least, greatest)


def can_rest(wiring, facts, state):
    """What may_rest tells, for facts of which it is known that no two clash."""
    # Each part has its rule for itself, so levels that are possible one by one are possible at once.
    bounds = _all_bounds(wiring, facts, state)
    return all([least <= level <= greatest for level, (least, greatest) in zip(state, bounds)])


def _all_bounds(wiring, facts, state):
    return [bounds_behind(wiring, facts, name, state) for name in wiring.parts]


def _signs_to(wiring, name):
    """The signs of the arrows from each of the parts to this one, None where there is no arrow."""
    return [wiring.sign(source, name) for source in wiring.parts]


def _is_below(signs, one, other):
    """True if one state is below the other one for a part with arrows of these signs to it."""
    for sign, low, high in zip(signs, one, other):
        if low > high and sign in ("+", "?"):
            return False
        if low < high and sign in ("-", "?"):
            return False
    return True


def _first_against(wiring, facts, fact):
    """The first of the facts with which this one clashes, as the one with the greater level."""
    state, name, level = fact
    signs = _signs_to(wiring, name)
    against = [
        other for other in facts
        if other[1] == name and other[2] < level and _is_below(signs, state, other[0])
    ]
    return against[0]


def _choice(wiring, name, state):
    """The levels of the sources of a part in a state."""
    return tuple([state[place] for place in source_places(wiring, name)])


def _least_levels(wiring, facts, name):
    """The least level of a part for each choice: the greatest level that a fact tells for a choice below it, or 0."""
    return _pushed_up(wiring, name, _levels_told(wiring, facts, name), 1)


def _greatest_levels(wiring, facts, name):
    """The greatest level of a part for each choice: the least level that a fact tells above it, or the top."""
    # Counted from the top, and with above for below, it is a least level.
    top = wiring.top(name)
    told = [(choice, top - level) for choice, level in _levels_told(wiring, facts, name)]
    gaps = _pushed_up(wiring, name, told, -1)
    return {choice: top - gaps[choice] for choice in gaps}


def _levels_told(wiring, facts, name):
    """The choices of levels of the sources of a part in the facts about it, with the levels of the part."""
    places = source_places(wiring, name)
    return [(tuple([state[place] for place in places]), level) for state, part, level in facts if part == name]


def _pushed_up(wiring, name, told, way):
    """For each choice the greatest number that is told for a choice below it, or above it if way is -1, or else 0."""
    choices = source_choices(wiring, name)
    numbers = {choice: 0 for choice in choices}
    for choice, number in told:
        numbers[choice] = max(numbers[choice], number)
    # One source after the other, and in the direction in which it pushes: so each number gets all the way.
    # Pairs of facts would do as well, but there may be very many of them.
    for place, step in _steps_up(wiring, name):
        upwards = choices if step == way else choices[::-1]
        for choice in upwards:
            behind = choice[:place] + (choice[place] - step * way,) + choice[place + 1:]
            numbers[choice] = max(numbers[choice], numbers.get(behind, 0))
    return numbers


def _steps_up(wiring, name):
    """The places of the sources with the sign + or - and the steps of their levels that lead to choices above."""
    signs = [wiring.sign(source, name) for source in wiring.sources(name)]
    return [(place, 1 if sign == "+" else -1) for place, sign in enumerate(signs) if sign != "?"]
