"""What several test files need: sample wirings and rules, values of all kinds, a way to catch errors."""

import functools
import itertools
import math
import random

from surerests.rules import Rules
from surerests.wirings import Wiring

SAMPLE_TEXTS = [
    "a:1",
    "a:3; a ? a",
    "a:1 b:2; a + b; b - a; b ? b",
    "a1:2 b:1 b2c3d4:3; a1 + b; b - b2c3d4; b2c3d4 ? a1",
    "a:3 b:3 c:3 d:3; a + d; d - a",
    "a:1 b:1 c:1 d:1 e:1 f:1; a + f; b - a; f ? f",
]

# None of these is a name, a top, a sign, an arrow, or a state of a wiring with
# three parts; those that equal one of these in Python (True is 1) are among them.
ODD_VALUES = [
    None,
    True,
    False,
    -1,
    4,
    10 ** 40,
    "",
    "1",
    "A",
    "a b",
    "\n",
    "+-",
    "a + b",
    [],
    (),
    {},
    [1],
    (True,),
    ["a", "b", "+"],
    [0, 0, 0],
    {"a": 1},
    ([], {}, ()),
    [[[[["a"]]]]],
    ((((("a",),),),),),
    {"a": {"b": [{"c": (1, 2)}]}},
]


def samples():
    return [Wiring.read(text) for text in SAMPLE_TEXTS]


def wired(text):
    """The wiring with this text, in which the arrows may stand in any order."""
    heads, *tails = text.split("; ")
    words = [tail.split(" ") for tail in tails]
    tails = [" ".join(row) for row in sorted(words, key=lambda row: (row[0], row[2]))]
    return Wiring.read("; ".join([heads, *tails]))


def full_wiring(sign, top=1):
    """Six parts with an arrow from each to each, or four of them if the top is 3."""
    parts = "abcdef" if top == 1 else "abcd"
    return Wiring({name: top for name in parts}, [(one, other, sign) for one in parts for other in parts])


def wirings_of(tops, step=1):
    """Every wiring with these tops, or each step-th of them."""
    parts = sorted(tops)
    pairs = list(itertools.product(parts, repeat=2))
    for signs in itertools.islice(itertools.product(" +-?", repeat=len(pairs)), 0, None, step):
        yield Wiring(tops, [(*pair, sign) for pair, sign in zip(pairs, signs) if sign != " "])


def small_wirings():
    """Wirings of one and of two parts, and some of three parts."""
    yield from wirings_of({"a": 1})
    yield from wirings_of({"a": 3})
    yield from wirings_of({"a": 1, "b": 1})
    yield from wirings_of({"b1": 2, "b": 1}, 7)
    yield from wirings_of({"c": 1, "ab": 1, "b": 1}, 1009)


def ringless(tops, step=1):
    """Every wiring with these tops in which arrows lead only from a part to later ones of the dict."""
    pairs = list(itertools.combinations(tops, 2))
    for signs in itertools.islice(itertools.product(" +-?", repeat=len(pairs)), 0, None, step):
        yield Wiring(tops, [(*pair, sign) for pair, sign in zip(pairs, signs) if sign != " "])


def rings_of(wiring):
    """All rings, by point 7: found among all rows of different parts."""
    found = []
    for length in range(1, len(wiring.parts) + 1):
        for row in itertools.permutations(wiring.parts, length):
            pairs = zip(row, row[1:] + row[:1])
            if row[0] == min(row) and all(wiring.sign(*pair) is not None for pair in pairs):
                found.append(row)
    return found


def parities_of(wiring, ring):
    """The parities, 0 or 1, that the number of arrows with - around the ring can have, by point 7."""
    signs = [wiring.sign(*pair) for pair in zip(ring, ring[1:] + ring[:1])]
    ways = itertools.product(*["+-" if sign == "?" else sign for sign in signs])
    return {way.count("-") % 2 for way in ways}


def rings_with(wiring, parity):
    """The rings, in order, that can have this parity."""
    return [ring for ring in rings_of(wiring) if parity in parities_of(wiring, ring)]


def ring_wiring(parts, signs, tops):
    """One ring around these parts, which may begin with any of them."""
    return Wiring(dict(zip(parts, tops)), list(zip(parts, parts[1:] + parts[:1], signs)))


def long_rings():
    """Rings of one to six parts with many signs and tops, alone."""
    for parts, step in (("a", 1), ("ba", 1), ("bca", 1), ("dacb", 1), ("caebd", 7), ("fadbec", 13)):
        length = len(parts)
        for tops in ((1,) * 6, (2,) * 6, (3,) * 6, (3, 1, 2, 1, 2, 1), (1, 3, 1, 3, 1, 1)):
            if math.prod(top + 1 for top in tops[:length]) <= 256:
                for signs in itertools.islice(itertools.product("+-?", repeat=length), 0, None, step):
                    yield ring_wiring(list(parts), signs, tops)


def all_sets(wiring):
    """All sets of parts, in order."""
    parts = wiring.parts
    return [names for length in range(len(parts) + 1) for names in itertools.combinations(parts, length)]


def choices_of(wiring, name):
    return list(itertools.product(*[range(wiring.top(source) + 1) for source in wiring.sources(name)]))


def fits(signs, table):
    """True if the rule in the table fits arrows with these signs, by point 6: over all pairs of choices."""
    for low, high in itertools.permutations(table, 2):
        places = [place for place, (one, other) in enumerate(zip(low, high)) if one != other]
        if len(places) == 1 and low[places[0]] < high[places[0]]:
            sign = signs[places[0]]
            if sign == "+" and table[low] > table[high] or sign == "-" and table[low] < table[high]:
                return False
    return True


@functools.cache
def _fitting_tables(choices, signs, top):
    rows = itertools.product(range(top + 1), repeat=len(choices))
    tables = [dict(zip(choices, row)) for row in rows]
    return [table for table in tables if fits(signs, table)]


def tables_of(wiring, name):
    """All fitting rules of a part."""
    signs = tuple(wiring.sign(source, name) for source in wiring.sources(name))
    return _fitting_tables(tuple(choices_of(wiring, name)), signs, wiring.top(name))


def rules_of(wiring, most=400):
    """All rules for a wiring, or about so many of them if there are more."""
    tables = [tables_of(wiring, name) for name in wiring.parts]
    count = math.prod(len(each) for each in tables)
    # An odd step, so that the last part does not always have the same few tables.
    for chosen in itertools.islice(itertools.product(*tables), 0, None, count // most | 1):
        yield Rules(wiring, dict(zip(wiring.parts, chosen)))


def drawn_rules(wiring, seed):
    """Some rules for any wiring: weighed sums of the levels, with any start for each choice of those behind a ?."""
    draw = random.Random(f"{seed} {wiring}")
    tables = {}
    for name in wiring.parts:
        top = wiring.top(name)
        signs = [wiring.sign(source, name) for source in wiring.sources(name)]
        weights = [{"+": 1, "-": -1, "?": 0}[sign] * draw.randint(0, 3) for sign in signs]
        table = {}
        starts = {}
        for choice in choices_of(wiring, name):
            free = tuple(level for sign, level in zip(signs, choice) if sign == "?")
            start = starts.setdefault(free, draw.randint(-2, 2 * top + 2))
            number = start + sum(weight * level for weight, level in zip(weights, choice))
            table[choice] = min(max(number // 2, 0), top)
        tables[name] = table
    return Rules(wiring, tables)


def tables_told(rules):
    return {name: rules.table(name) for name in rules.wiring.parts}


def rests_of(rules):
    """The states of rest, by point 6."""
    tables = tables_told(rules)
    return [state for state in rules.wiring.states() if next_of(rules.wiring, tables, state) == state]


def next_of(wiring, tables, state):
    """The next state, by point 6."""
    levels = dict(zip(wiring.parts, state))
    return tuple(tables[name][tuple(levels[source] for source in wiring.sources(name))] for name in wiring.parts)


def all_facts(wiring):
    """All facts of a wiring."""
    return [
        (state, name, level)
        for state in wiring.states() for name in wiring.parts for level in range(wiring.top(name) + 1)
    ]


def drawn_facts(wiring, seed, many):
    """So many facts of any wiring: some by the same rules, which do not clash, or any for an odd seed."""
    draw = random.Random(f"{seed} {many} {wiring}")
    rules = drawn_rules(wiring, seed)
    facts = []
    for _ in range(many):
        state = draw.choice(wiring.states())
        place = draw.randrange(len(state))
        level = rules.next(state)[place] if seed % 2 == 0 else draw.randint(0, wiring.top(wiring.parts[place]))
        facts.append((state, wiring.parts[place], level))
    return facts


def is_below(wiring, name, one, other):
    """True if the levels of the sources of the part in one state are below those in the other, by point 49."""
    for source, low, high in zip(wiring.parts, one, other):
        sign = wiring.sign(source, name)
        if sign == "+" and low > high or sign == "-" and low < high or sign == "?" and low != high:
            return False
    return True


def clash_of(wiring, facts):
    """The first tuple of two facts that clash, by points 49 and 50."""
    for one in facts:
        for other in facts:
            if one[1] == other[1] and one[2] > other[2] and is_below(wiring, one[1], one[0], other[0]):
                return one, other
    return None


def arrows_to(wiring, name):
    """All arrows to a part, by point 54."""
    rows = itertools.product(" +-?", repeat=len(wiring.parts))
    return [
        tuple((source, name, sign) for source, sign in zip(wiring.parts, signs) if sign != " ")
        for signs in rows
    ]


def choice_of(wiring, name, state):
    """The levels of the sources of a part in a state."""
    return tuple(state[wiring.parts.index(source)] for source in wiring.sources(name))


def fitting_tables(wiring, name, facts):
    """All fitting rules of a part that tell all facts about it."""
    told = [(choice_of(wiring, name, state), level) for state, part, level in facts if part == name]
    return [table for table in tables_of(wiring, name) if all(table[choice] == level for choice, level in told)]


def caught(kind, call):
    """The error that the call raises, which has to be just of this class."""
    try:
        result = call()
    except ValueError as error:
        if error.__class__ is kind:
            return error
        raise AssertionError(f"{error!r} instead of {kind.__name__}") from error
    raise AssertionError(f"{result!r} instead of {kind.__name__}")
