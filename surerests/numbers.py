"""How many states of rest rules for a wiring can have."""

from surerests.errors import BadSet
from surerests.rings import all_rings, can_be_even, ring_arrows
from surerests.rules import Rules, copying, lowest_rules


def meets(wiring, names):
    """True if each ring that can be even has a part in this set of parts, and False otherwise."""
    if not _is_set(wiring, names):
        raise BadSet(names)
    return _meets_all(names, _even_rings(wiring))


def least_meeting(wiring):
    """The first set of parts among those of least room that meet all rings that can be even."""
    rings = _even_rings(wiring)
    meeting = [names for names in _sets(wiring.parts) if _meets_all(names, rings)]
    return min(meeting, key=lambda names: _set_room(wiring, names))


def apart(wiring):
    """A new list, in order, of rings that can be even and share no part, with the greatest product of their rooms."""
    lists = [[]]
    for ring in _rings_by_parts(_even_rings(wiring)):
        lists = lists + [rings + [ring] for rings in lists if not _have_common_part(rings, ring)]
    return max(lists, key=lambda rings: _product_of_rooms(wiring, rings))


def many_rests(wiring):
    """Rules that have as many states of rest as the product of the rooms of the rings of apart."""
    lowest = lowest_rules(wiring)
    tables = {name: lowest.table(name) for name in wiring.parts}
    for ring in apart(wiring):
        # Each ring for itself: it can copy as many levels as the least top of its parts allows.
        copied = copying(wiring, ring_arrows(wiring, ring, 0), _ring_room(wiring, ring) - 1)
        for name in ring:
            tables[name] = copied.table(name)
    return Rules(wiring, tables)


def most_rests(wiring):
    """Two numbers between which the greatest number of states of rest lies."""
    return (_product_of_rooms(wiring, apart(wiring)), _set_room(wiring, least_meeting(wiring)))


def _even_rings(wiring):
    return [ring for ring in all_rings(wiring) if can_be_even(wiring, ring)]


def _is_set(wiring, value):
    """True if the value, which may be any value, is a set of the parts."""
    return isinstance(value, tuple) and value == tuple([name for name in wiring.parts if name in value])


def _sets(parts):
    """All sets of these parts, in order."""
    found = [()]
    for name in parts:
        found = found + [names + (name,) for names in found]
    return sorted(found, key=lambda names: (len(names), names))


def _meets_all(names, rings):
    return all([any([name in names for name in ring]) for ring in rings])


def _rings_by_parts(rings):
    """The first one of the rings with the same parts, for all of them: their rooms are the same."""
    found = {}
    for ring in rings:
        found.setdefault(tuple(sorted(ring)), ring)
    return list(found.values())


def _have_common_part(rings, ring):
    return any([name in other for other in rings for name in ring])


def _ring_room(wiring, ring):
    return 1 + min([wiring.top(name) for name in ring])


def _product_of_rooms(wiring, rings):
    return _product([_ring_room(wiring, ring) for ring in rings])


def _set_room(wiring, names):
    return _product([1 + wiring.top(name) for name in names])


def _product(numbers):
    total = 1
    for number in numbers:
        total = total * number
    return total
