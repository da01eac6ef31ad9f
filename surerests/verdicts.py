"""Verdicts: what holds for the states of rest of all rules for a wiring, with a paper that shows it."""

from surerests.existence import at_least_one, no_rest
from surerests.rings import order_of
from surerests.rules import Rules, all_rests
from surerests.uniques import at_most_one, check_two, two_rests

ONE = "one"
AT_MOST = "at most"
AT_LEAST = "at least"
ANY = "any"


class Verdict:
    """A kind of wirings, and a paper that shows it."""

    def __init__(self, kind, paper):
        self._kind = _copied(kind)
        self._paper = _copied(paper)

    @property
    def kind(self):
        """The kind."""
        return _copied(self._kind)

    @property
    def paper(self):
        """What shows the kind."""
        return _copied(self._paper)


def judge(wiring):
    """The verdict of a wiring."""
    kind = _kind_of(wiring)
    if kind == ONE:
        return Verdict(kind, order_of(wiring))
    if kind == AT_MOST:
        return Verdict(kind, no_rest(wiring))
    if kind == AT_LEAST:
        return Verdict(kind, two_rests(wiring))
    return Verdict(kind, (no_rest(wiring), two_rests(wiring)))


def check_verdict(wiring, verdict):
    """True if the verdict has the kind of the wiring and a paper that shows it, and False otherwise."""
    kind = _kind_of(wiring)
    if verdict.kind != kind:
        return False
    paper = verdict.paper
    if kind == ONE:
        return _is_order(wiring, paper)
    if kind == AT_MOST:
        return _has_no_rest(wiring, paper)
    if kind == AT_LEAST:
        return _has_two_rests(wiring, paper)
    return _is_tuple_of(paper, 2) and _has_no_rest(wiring, paper[0]) and _has_two_rests(wiring, paper[1])


def _copied(value):
    """The value with new lists and dicts in the place of those in it."""
    if isinstance(value, list):
        return [_copied(item) for item in value]
    if isinstance(value, tuple):
        return tuple([_copied(item) for item in value])
    if isinstance(value, dict):
        return {key: _copied(value[key]) for key in value}
    return value


def _kind_of(wiring):
    # Each ring can be even or odd, so there is none if none can be either.
    most = at_most_one(wiring)
    least = at_least_one(wiring)
    if most and least:
        return ONE
    if most:
        return AT_MOST
    if least:
        return AT_LEAST
    return ANY


def _is_tuple_of(value, length):
    return isinstance(value, tuple) and len(value) == length


def _is_order(wiring, value):
    """True if the value, which may be any value, has each part once, behind all of its sources."""
    parts = wiring.parts
    if not _is_tuple_of(value, len(parts)) or not all([name in value for name in parts]):
        return False
    places = {name: place for place, name in enumerate(value)}
    return all([places[source] < places[target] for source, target, _ in wiring.arrows])


def _has_no_rest(wiring, value):
    """True if the value, which may be any value, is rules for the wiring without a state of rest."""
    return isinstance(value, Rules) and value.wiring == wiring and all_rests(value) == []


def _has_two_rests(wiring, value):
    """True if the value, which may be any value, is rules for the wiring and two states of rest of them."""
    if not _is_tuple_of(value, 3) or not isinstance(value[0], Rules):
        return False
    return check_two(wiring, value[0], value[1], value[2])
