"""What several test files need: sample wirings, values of all kinds, a way to catch errors."""

from surerests.wirings import Wiring

SAMPLE_TEXTS = [
    "a:1",
    "a:3; a ? a",
    "a:1 b:2; a + b; b - a; b ? b",
    "a1:2 b:1 b2c3d4:3; a1 + b; b - b2c3d4; b2c3d4 ? a1",
    "a:3 b:3 c:3 d:3; a + d; d - a",
    "a:1 b:1 c:1 d:1 e:1 f:1; a + f; b - a; f ? f",
]

# None of these is a name, a top, a sign, an arrow, or a state of a wiring with
# three parts; those that equal one of these in Python (True is 1) are among them.
ODD_VALUES = [
    None,
    True,
    False,
    -1,
    4,
    10 ** 40,
    "",
    "1",
    "A",
    "a b",
    "\n",
    "+-",
    "a + b",
    [],
    (),
    {},
    [1],
    (True,),
    ["a", "b", "+"],
    [0, 0, 0],
    {"a": 1},
    ([], {}, ()),
    [[[[["a"]]]]],
    ((((("a",),),),),),
    {"a": {"b": [{"c": (1, 2)}]}},
]


def samples():
    return [Wiring.read(text) for text in SAMPLE_TEXTS]


def caught(kind, call):
    """The error that the call raises, which has to be just of this class."""
    try:
        result = call()
    except ValueError as error:
        if error.__class__ is kind:
            return error
        raise AssertionError(f"{error!r} instead of {kind.__name__}") from error
    raise AssertionError(f"{result!r} instead of {kind.__name__}")
