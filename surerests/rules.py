"""Rules for a wiring: what they tell, and their states of rest."""

from surerests.errors import BadArrow, BadNumber, BadState, BadTable, UnknownName, UnlikeParts
from surerests.wirings import GREATEST_TOP, is_whole, level_choices


class Rules:
    """A fitting rule for each part of a wiring."""

    def __init__(self, wiring, tables):
        names = tuple(sorted(tables))
        if names != wiring.parts:
            raise UnlikeParts(names)
        self._wiring = wiring
        self._tables = {name: _checked_table(wiring, name, tables[name]) for name in names}
        self._places = {name: _source_places(wiring, name) for name in names}

    @property
    def wiring(self):
        """The wiring."""
        return self._wiring

    def table(self, name):
        """A new dict from the choices of levels of the sources of a part to its next level."""
        if name not in self._tables:
            raise UnknownName(name)
        table = self._tables[name]
        return {choice: table[choice] for choice in table}

    def next(self, state):
        """The next state of a state."""
        if not self._wiring.is_state(state):
            raise BadState(state)
        return tuple([self._next_level(name, state) for name in self._wiring.parts])

    def rests(self, state):
        """True if the state is a state of rest, and False otherwise."""
        return self.next(state) == state

    def __eq__(self, other):
        return isinstance(other, Rules) and self._wiring == other._wiring and self._tables == other._tables

    def _next_level(self, name, state):
        return self._tables[name][tuple([state[place] for place in self._places[name]])]


def all_rests(rules):
    """A new list of all states of rest, in order."""
    return [state for state in rules.wiring.states() if rules.rests(state)]


def lowest_rules(wiring):
    """The rules in which every next level is 0."""
    return copying(wiring, [], 1)


def copying(wiring, arrows, shift):
    """Rules in which the targets of these arrows copy their sources up to shift, and all others have the level 0."""
    copied = _checked_copies(wiring, arrows)
    if not is_whole(shift, 1, min([wiring.top(name) for name in copied], default=GREATEST_TOP)):
        raise BadNumber(shift)
    tables = {}
    for name in wiring.parts:
        choices = source_choices(wiring, name)
        if name in copied:
            tables[name] = _copying_table(wiring, choices, copied[name], shift)
        else:
            tables[name] = {choice: 0 for choice in choices}
    return Rules(wiring, tables)


def source_choices(wiring, name):
    """All choices of levels of the sources of a part, in order."""
    return level_choices([wiring.top(source) for source in wiring.sources(name)])


def _source_places(wiring, name):
    """The places of the sources of a part among all parts."""
    return [wiring.parts.index(source) for source in wiring.sources(name)]


def _checked_table(wiring, name, table):
    """A copy of the table of a part; raises BadTable if it is not a rule of this part."""
    choices = source_choices(wiring, name)
    if len(table) != len(choices) or not all([choice in table for choice in choices]):
        raise BadTable(name)
    if not all([is_whole(table[choice], 0, wiring.top(name)) for choice in choices]):
        raise BadTable(name)
    if not _fits(wiring, name, table):
        raise BadTable(name)
    return {choice: table[choice] for choice in choices}


def _fits(wiring, name, table):
    """True if the levels in a table of a part, which has the right keys, go with the signs of its arrows."""
    for place, source in enumerate(wiring.sources(name)):
        sign = wiring.sign(source, name)
        # Steps of one level are enough: greater ones are made of them.
        for choice in table:
            above = table.get(choice[:place] + (choice[place] + 1,) + choice[place + 1:])
            if above is not None and not _may_follow(sign, table[choice], above):
                return False
    return True


def _may_follow(sign, level, above):
    """True if a next level may become this other one where the source of an arrow with this sign is raised."""
    if sign == "+":
        return level <= above
    if sign == "-":
        return level >= above
    return True


def _checked_copies(wiring, arrows):
    """The arrow to each target; raises BadArrow if one of the arrows cannot be copied along."""
    # Compared, not looked up: the items may be any values, also such as cannot be keys.
    allowed = [
        (source, target, copied)
        for source, target, sign in wiring.arrows for copied in ("+", "-") if sign in (copied, "?")
    ]
    copies = {}
    for arrow in arrows:
        if arrow not in allowed or arrow[1] in copies:
            raise BadArrow(arrow)
        copies[arrow[1]] = arrow
    return copies


def _copying_table(wiring, choices, arrow, shift):
    source, target, sign = arrow
    place = wiring.sources(target).index(source)
    if sign == "+":
        return {choice: min(choice[place], shift) for choice in choices}
    return {choice: shift - min(choice[place], shift) for choice in choices}
