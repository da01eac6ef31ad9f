"""Wirings: parts with their tops, and signed arrows between them."""

from surerests.errors import BadArrow, BadCount, BadName, BadText, BadTop, RestError, UnknownName
from surerests.naming import valid_name

MOST_PARTS = 6
MOST_STATES = 256
SIGNS = ("+", "-", "?")
LEAST_TOP = 1
GREATEST_TOP = 3
TOPS_BY_TEXT = {"1": 1, "2": 2, "3": 3}


class Wiring:
    """Parts, their tops, and at most one arrow from each part to each part."""

    def __init__(self, tops, arrows):
        _check_tops(tops)
        self._parts = tuple(sorted(tops))
        self._tops = {name: tops[name] for name in self._parts}
        self._signs = _checked_signs(tops, arrows)
        self._arrows = tuple(sorted(arrows))

    @classmethod
    def read(cls, text):
        """The wiring with this text."""
        pieces = text.split("; ")
        tops = _read_tops(pieces[0])
        arrows = [_read_arrow(piece) for piece in pieces[1:]]
        try:
            wiring = cls(tops, arrows)
        except RestError:
            raise BadText(text) from None
        # Parts or arrows in another order, or a part twice, make a wiring too, but not its text.
        if str(wiring) != text:
            raise BadText(text)
        return wiring

    @property
    def parts(self):
        """The parts in ascending order."""
        return self._parts

    @property
    def arrows(self):
        """The arrows in order."""
        return self._arrows

    def top(self, name):
        """The top of a part."""
        self._check_part(name)
        return self._tops[name]

    def sources(self, name):
        """The sources of a part in ascending order."""
        self._check_part(name)
        return tuple([source for source in self._parts if (source, name) in self._signs])

    def sign(self, source, target):
        """The sign of the arrow from source to target, or None if there is no such arrow."""
        self._check_part(source)
        self._check_part(target)
        return self._signs.get((source, target))

    def states(self):
        """A new list of all states in order."""
        return level_choices([self._tops[name] for name in self._parts])

    def is_state(self, value):
        """True if the value, which may be any value, is a state, and False otherwise."""
        if not isinstance(value, tuple) or len(value) != len(self._parts):
            return False
        return all([is_whole(level, 0, self._tops[name]) for name, level in zip(self._parts, value)])

    def with_arrow(self, source, target, sign):
        """The wiring with this arrow, in the place of the one that stood there."""
        # The others are arrows with other places, so only this one can be refused.
        return Wiring(self._tops, self._other_arrows(source, target) + [(source, target, sign)])

    def without_arrow(self, source, target):
        """The wiring without the arrow from source to target."""
        others = self._other_arrows(source, target)
        if len(others) == len(self._arrows):
            raise BadArrow((source, target))
        return Wiring(self._tops, others)

    def only(self, names):
        """The wiring of these parts with the arrows between them."""
        for name in names:
            self._check_part(name)
        # An empty list is refused where the wiring is built, as a wiring without parts.
        tops = {name: self._tops[name] for name in names}
        return Wiring(tops, [arrow for arrow in self._arrows if arrow[0] in tops and arrow[1] in tops])

    def mirrored(self):
        """The wiring in which each arrow leads from its target to its source."""
        return Wiring(self._tops, [(target, source, sign) for source, target, sign in self._arrows])

    def __eq__(self, other):
        return isinstance(other, Wiring) and self._tops == other._tops and self._arrows == other._arrows

    def __str__(self):
        heads = " ".join([f"{name}:{self._tops[name]}" for name in self._parts])
        tails = [f"{source} {sign} {target}" for source, target, sign in self._arrows]
        return "; ".join([heads, *tails])

    def _check_part(self, name):
        if name not in self._tops:
            raise UnknownName(name)

    def _other_arrows(self, source, target):
        # Compared, not looked up: the two may be any values, also such as cannot be keys.
        return [arrow for arrow in self._arrows if arrow[:2] != (source, target)]


def level_choices(tops):
    """A new list of all tuples with a level for each of these tops, in order."""
    choices = [()]
    for top in tops:
        choices = [choice + (level,) for choice in choices for level in range(top + 1)]
    return choices


def is_whole(value, least, most):
    """True if the value, which may be any value, is an integer from least to most."""
    # Python counts True and False among its integers, the document does not.
    return isinstance(value, int) and not isinstance(value, bool) and least <= value <= most


def _check_tops(tops):
    if not 1 <= len(tops) <= MOST_PARTS:
        raise BadCount(len(tops))
    parts = sorted(tops)
    for name in parts:
        if not valid_name(name):
            raise BadName(name)
    for name in parts:
        if not is_whole(tops[name], LEAST_TOP, GREATEST_TOP):
            raise BadTop(tops[name])
    count = _count_states(tops)
    if count > MOST_STATES:
        raise BadCount(count)


def _count_states(tops):
    count = 1
    for top in tops.values():
        count = count * (top + 1)
    return count


def _checked_signs(tops, arrows):
    """The sign of each arrow by its source and target; raises BadArrow."""
    signs = {}
    for arrow in arrows:
        if not is_arrow(tops, arrow) or arrow[:2] in signs:
            raise BadArrow(arrow)
        signs[arrow[:2]] = arrow[2]
    return signs


def is_arrow(parts, value):
    """True if the value, which may be any value, is an arrow of these parts."""
    if not isinstance(value, tuple) or len(value) != 3:
        return False
    # Only strings are looked up: other values may be such as cannot be keys.
    if not all([isinstance(item, str) for item in value]):
        return False
    source, target, sign = value
    return source in parts and target in parts and sign in SIGNS


def _read_tops(text):
    tops = {}
    for piece in text.split(" "):
        name, _, top = piece.partition(":")
        tops[name] = TOPS_BY_TEXT.get(top)
    return tops


def _read_arrow(text):
    """The arrow with this text, or None, which is no arrow, if it does not have three words."""
    words = text.split(" ")
    if len(words) != 3:
        return None
    source, sign, target = words
    return (source, target, sign)
