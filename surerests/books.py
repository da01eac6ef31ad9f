"""Books: a wiring and facts that can be changed, and changed back."""

from surerests.errors import BadFact, BadNumber, Clash, NothingToUndo
from surerests.facts import bounds_behind, can_rest, check_no_clash, clash, is_fact
from surerests.verdicts import judge
from surerests.wirings import is_whole


class Book:
    """A wiring and a list of facts no two of which clash."""

    def __init__(self, wiring):
        self._wiring = wiring
        self._facts = ()
        self._changes = []
        self._earlier = []

    @property
    def wiring(self):
        """The wiring as it is now."""
        return self._wiring

    @property
    def facts(self):
        """The facts, in the order in which they came."""
        return self._facts

    def verdict(self):
        """The verdict of the wiring."""
        return judge(self._wiring)

    def bounds(self, name, state):
        """The least and the greatest level of a part behind a state by rules that fit the facts."""
        return bounds_behind(self._wiring, self._facts, name, state)

    def put_arrow(self, source, target, sign):
        """Puts an arrow into the wiring, in the place of the one that stood there."""
        wiring = self._wiring.with_arrow(source, target, sign)
        check_no_clash(wiring, self._facts)
        self._change(("arrow", source, target, sign), wiring, self._facts)

    def drop_arrow(self, source, target):
        """Takes an arrow out of the wiring."""
        wiring = self._wiring.without_arrow(source, target)
        check_no_clash(wiring, self._facts)
        self._change(("drop arrow", source, target), wiring, self._facts)

    def put_fact(self, state, name, level):
        """Puts a fact behind the others."""
        fact = (state, name, level)
        if not is_fact(self._wiring, fact):
            raise BadFact(fact)
        facts = self._facts + (fact,)
        least, greatest = self.bounds(name, state)
        # The other facts do not clash, so the bounds tell whether this one does with any of them.
        if not least <= level <= greatest:
            raise Clash(clash(self._wiring, facts))
        self._change(("fact", state, name, level), self._wiring, facts)

    def drop_fact(self, number):
        """Takes away the fact with this number, counted from 0."""
        if not is_whole(number, 0, len(self._facts) - 1):
            raise BadNumber(number)
        # No two of the facts clash, so no two of fewer facts do.
        self._change(("drop fact", number), self._wiring, self._facts[:number] + self._facts[number + 1:])

    def undo(self):
        """Takes back the last change that has not been taken back."""
        if not self._changes:
            raise NothingToUndo()
        self._changes.pop()
        self._wiring, self._facts = self._earlier.pop()

    def tried(self, changes):
        """The verdict that the book would have after these changes."""
        trial = Book(self._wiring)
        trial._facts = self._facts
        for change in changes:
            trial._make(change)
        return trial.verdict()

    def history(self):
        """A new list of the changes that have been made and not been taken back."""
        return list(self._changes)

    def __len__(self):
        return len(self._changes)

    def __contains__(self, state):
        return self._wiring.is_state(state) and can_rest(self._wiring, self._facts, state)

    def _change(self, change, wiring, facts):
        """Goes on with this wiring and these facts."""
        self._changes.append(change)
        self._earlier.append((self._wiring, self._facts))
        self._wiring = wiring
        self._facts = facts

    def _make(self, change):
        """Makes the change that this tuple stands for."""
        word, *told = change
        if word == "arrow":
            self.put_arrow(*told)
        elif word == "drop arrow":
            self.drop_arrow(*told)
        elif word == "fact":
            self.put_fact(*told)
        else:
            self.drop_fact(*told)
