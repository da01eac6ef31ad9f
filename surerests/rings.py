"""Rings of a wiring, orders and knots of its parts."""

from surerests.errors import BadRing, HasRing


def all_rings(wiring):
    """A new list of all rings, in order."""
    targets = _targets(wiring)
    rings = []
    ways = [(name,) for name in wiring.parts]
    while ways:
        rings.extend([way for way in ways if way[0] in targets[way[-1]]])
        # No part below the first one: a ring begins with the least of its parts.
        ways = [way + (name,) for way in ways for name in targets[way[-1]] if name > way[0] and name not in way]
    return rings


def check_ring(wiring, value):
    """True if the value, which may be any value, is a ring, and False otherwise."""
    if not isinstance(value, tuple) or len(value) == 0:
        return False
    if not all([name in wiring.parts for name in value]):
        return False
    if len(set(value)) < len(value) or value[0] != min(value):
        return False
    return None not in _signs(wiring, value)


def can_be_even(wiring, ring):
    """True if an even number of the arrows of the ring could have the sign -, and False otherwise."""
    _check_is_ring(wiring, ring)
    return _can_be(wiring, ring, 0)


def can_be_odd(wiring, ring):
    """True if an odd number of the arrows of the ring could have the sign -, and False otherwise."""
    _check_is_ring(wiring, ring)
    return _can_be(wiring, ring, 1)


def even_ring(wiring):
    """The first ring that can be even, or None if there is none."""
    return _first_ring(wiring, 0)


def odd_ring(wiring):
    """The first ring that can be odd, or None if there is none."""
    return _first_ring(wiring, 1)


def ring_arrows(wiring, ring, parity):
    """The arrows of a ring, with signs for each ? so that the number of - has this parity, which it can have."""
    signs = _signs(wiring, ring)
    if "?" in signs:
        place = signs.index("?")
        signs = ["+" if sign == "?" else sign for sign in signs]
        if signs.count("-") % 2 != parity:
            signs[place] = "-"
    return [(source, target, sign) for (source, target), sign in zip(_steps(ring), signs)]


def order_of(wiring):
    """An order of the parts in which all sources of each part stand before it."""
    rings = all_rings(wiring)
    if rings:
        raise HasRing(rings[0])
    order = []
    while len(order) < len(wiring.parts):
        order = order + [name for name in wiring.parts if name not in order and _is_ready(wiring, name, order)]
    return tuple(order)


def depth(wiring):
    """The greatest number of parts of a way, where there is no ring."""
    lengths = {}
    for name in order_of(wiring):
        lengths[name] = 1 + max([lengths[source] for source in wiring.sources(name)], default=0)
    return max(lengths.values())


def knots(wiring):
    """A new list of the knots, in an order in which no arrow leads from one to an earlier one."""
    ahead = {name: _parts_ahead(wiring, name) for name in wiring.parts}
    found = []
    for name in wiring.parts:
        knot = tuple([other for other in wiring.parts if other in ahead[name] and name in ahead[other]])
        if knot[0] == name:
            found.append(knot)
    # All that is ahead of a knot is also ahead of those to which its arrows lead, and they have parts of their own.
    return sorted(found, key=lambda parts: len(ahead[parts[0]]))


def _targets(wiring):
    """The targets of each part, in ascending order."""
    return {name: [target for source, target, _ in wiring.arrows if source == name] for name in wiring.parts}


def _steps(ring):
    """The pairs of a source and a target around the ring."""
    return list(zip(ring, ring[1:] + ring[:1]))


def _signs(wiring, ring):
    """The signs of the arrows around the ring, None where there is no arrow."""
    return [wiring.sign(source, target) for source, target in _steps(ring)]


def _check_is_ring(wiring, value):
    if not check_ring(wiring, value):
        raise BadRing(value)


def _can_be(wiring, ring, parity):
    signs = _signs(wiring, ring)
    return "?" in signs or signs.count("-") % 2 == parity


def _first_ring(wiring, parity):
    for ring in all_rings(wiring):
        if _can_be(wiring, ring, parity):
            return ring
    return None


def _is_ready(wiring, name, order):
    return all([source in order for source in wiring.sources(name)])


def _parts_ahead(wiring, name):
    """The part itself and all parts from which arrows lead to it, perhaps through other parts."""
    found = [name]
    waiting = [name]
    while waiting:
        part = waiting.pop()
        for source in wiring.sources(part):
            if source not in found:
                found.append(source)
                waiting.append(source)
    return found
