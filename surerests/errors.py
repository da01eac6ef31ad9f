"""All errors of the package. Each one keeps its arguments as attributes."""


class RestError(ValueError):
    """Above all other errors of the package."""


class BadName(RestError):
    """A part has a string that is not a name."""

    def __init__(self, name):
        self.name = name


class UnknownName(RestError):
    """There is no part with this name."""

    def __init__(self, name):
        self.name = name


class BadCount(RestError):
    """There are too few or too many parts, or too many states."""

    def __init__(self, count):
        self.count = count


class BadTop(RestError):
    """A part has a top that is not an integer from 1 to 3."""

    def __init__(self, value):
        self.value = value


class BadArrow(RestError):
    """An arrow does not fit the place where it stands."""

    def __init__(self, value):
        self.value = value


class BadText(RestError):
    """A text is not the text of a wiring."""

    def __init__(self, text):
        self.text = text


class BadState(RestError):
    """A value is not a state that is asked for."""

    def __init__(self, value):
        self.value = value


class BadTable(RestError):
    """The table of this part is not a rule that fits the wiring."""

    def __init__(self, name):
        self.name = name


class BadRing(RestError):
    """A value is not a ring of the wiring."""

    def __init__(self, value):
        self.value = value


class BadSet(RestError):
    """A value is not a set of the parts."""

    def __init__(self, value):
        self.value = value


class BadFact(RestError):
    """A value is not a fact of the wiring."""

    def __init__(self, value):
        self.value = value


class BadNumber(RestError):
    """A value is not a number that is asked for."""

    def __init__(self, value):
        self.value = value


class HasRing(RestError):
    """The wiring has this ring, but should have none."""

    def __init__(self, value):
        self.value = value


class HasOdd(RestError):
    """The wiring has this ring that can be odd, but should have none."""

    def __init__(self, value):
        self.value = value


class NoEven(RestError):
    """No ring of the wiring can be even."""


class NoOdd(RestError):
    """No ring of the wiring can be odd."""


class Settles(RestError):
    """Every run comes to rest for all rules for the wiring."""


class Clash(RestError):
    """These two facts clash."""

    def __init__(self, value):
        self.value = value


class UnlikeParts(RestError):
    """These keys of a dict are not just the parts of the wiring."""

    def __init__(self, names):
        self.names = names


class NothingToUndo(RestError):
    """There is no change that could be taken back."""
