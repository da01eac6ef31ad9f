"""Which arrows to a part can explain the facts about it."""

from surerests.errors import BadArrow, UnknownName
from surerests.facts import check_facts, clash
from surerests.wirings import Wiring, is_arrow

# Arrows to a part are also kept as one number, with two bits for each source: 1 for +, 2 for -, both for ?.
# Arrows are simpler than others exactly if their bits are among the bits of those.
SIGNS_BY_BITS = (None, "+", "-", "?")


def explains(wiring, facts, name, arrows):
    """True if these arrows to a part explain the facts, and False otherwise."""
    _check_asked(wiring, facts, name)
    _check_arrows(wiring, name, arrows)
    alone = Wiring({part: wiring.top(part) for part in wiring.parts}, arrows)
    return clash(alone, [fact for fact in facts if fact[1] == name]) is None


def is_simpler(one, other):
    """True if some arrows to a part are simpler than other ones, and False otherwise."""
    return all([arrow in other or (arrow[0], arrow[1], "?") in other for arrow in one])


def least_explanations(wiring, facts, name):
    """A new list of all arrows to a part that explain the facts, and than which no others that do are simpler."""
    _check_asked(wiring, facts, name)
    count = 2 * len(wiring.parts)
    fails = _failing(count, _bits_told(facts, name))
    found = [_arrows_of(wiring, name, bits) for bits in range(1 << count) if _is_least(count, fails, bits)]
    return sorted(found, key=lambda arrows: (len(arrows), arrows))


def needed_sources(wiring, facts, name):
    """The sources, in ascending order, that occur in all of the least explanations; none if there are none."""
    rows = _sources_of_each(wiring, facts, name)
    return tuple([part for part in wiring.parts if rows and all([part in row for row in rows])])


def possible_sources(wiring, facts, name):
    """The sources, in ascending order, that occur in at least one of the least explanations."""
    rows = _sources_of_each(wiring, facts, name)
    return tuple([part for part in wiring.parts if any([part in row for row in rows])])


def _check_asked(wiring, facts, name):
    check_facts(wiring, facts)
    if name not in wiring.parts:
        raise UnknownName(name)


def _check_arrows(wiring, name, arrows):
    """Raises BadArrow with the first of these that does not stand right among arrows to this part."""
    # Arrows with different sources are in ascending order if their sources are; no source is below this one.
    last = ""
    for arrow in arrows:
        if not is_arrow(wiring.parts, arrow) or arrow[1] != name or arrow[0] <= last:
            raise BadArrow(arrow)
        last = arrow[0]


def _bits_told(facts, name):
    """For each two facts about the part with different levels the bits of which arrows that explain have one."""
    told = [(state, level) for state, part, level in facts if part == name]
    found = set()
    for state, level in told:
        for other, lower in told:
            if level > lower:
                found.add(_bits_between(state, other))
    return sorted(found)


def _bits_between(state, other):
    """The bits any one of which keeps a state from being below the other one."""
    bits = 0
    for place, (one, two) in enumerate(zip(state, other)):
        if one > two:
            bits = bits | (1 << (2 * place))
        elif one < two:
            bits = bits | (2 << (2 * place))
    return bits


def _failing(count, told):
    """For each number whether arrows that lack its bits do not explain: it then has all bits of one of those told."""
    fails = [False for _ in range(1 << count)]
    for bits in told:
        fails[bits] = True
    for place in range(count):
        for bits in range(1 << count):
            if _has(bits, place) and fails[bits - (1 << place)]:
                fails[bits] = True
    return fails


def _is_least(count, fails, bits):
    """True if arrows with these bits explain, and do not without any one of them."""
    lacking = (1 << count) - 1 - bits
    if fails[lacking]:
        return False
    return all([fails[lacking + (1 << place)] for place in range(count) if _has(bits, place)])


def _has(bits, place):
    return (bits >> place) & 1 == 1


def _arrows_of(wiring, name, bits):
    """The arrows to a part with these bits."""
    signs = [SIGNS_BY_BITS[(bits >> (2 * place)) & 3] for place in range(len(wiring.parts))]
    return tuple([(source, name, sign) for source, sign in zip(wiring.parts, signs) if sign is not None])


def _sources_of_each(wiring, facts, name):
    """The sources of each of the least explanations."""
    return [[arrow[0] for arrow in arrows] for arrows in least_explanations(wiring, facts, name)]
