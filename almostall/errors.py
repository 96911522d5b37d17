"""The refusals. Each stands straight under WebError, so that catching one never catches another."""


class WebError(ValueError):
    """Any refusal."""


class NoCount(WebError):
    """A number that should be a count, or how many there are, and lies outside what is allowed."""


class NoPlace(WebError):
    """A number that is no place, or that may not stand where it stands."""

    def __init__(self, place):
        # Python refuses to spell out numbers of many thousand figures, so the field alone has it.
        super().__init__("not a place that may stand here")
        self.place = place


class NoTie(WebError):
    """A tie that cannot be: of a place and itself, or of two places that have theirs already."""

    def __init__(self, place):
        super().__init__("not a tie that may stand here")
        self.place = place


class NoText(WebError):
    """A text that is none of the texts asked for."""

    def __init__(self, at):
        super().__init__(f"not such a text: {at} signs of it can begin one")
        self.at = at


class NoName(WebError):
    """A name that is none, or that nothing is laid on or stands by."""

    def __init__(self, name):
        super().__init__(f"not a name that may stand here: {name}")
        self.name = name


class TooMany(WebError):
    """More than can be gone through."""


class NoWant(WebError):
    """Signs that are none of a want, or not as many as it needs."""


class NoPrime(WebError):
    """A number that is no prime of the kind asked for."""


class NoWay(WebError):
    """A text that is no way of so many names."""

    def __init__(self, way):
        super().__init__(f"not a way of so many names: {way}")
        self.way = way


class NoSentence(WebError):
    """A formula with free names where a sentence is due."""

    def __init__(self, names):
        super().__init__(f"not a sentence, its free names: {names}")
        self.names = names


class NoMark(WebError):
    """A mark that is 0 or below."""


class NoChance(WebError):
    """A fraction that is no chance."""


class NoPosition(WebError):
    """What is no position of a play."""


class BadChain(WebError):
    """A chain with a step that is none."""

    def __init__(self, place):
        super().__init__(f"not a chain, from step {place} on")
        self.place = place


class NoPair(WebError):
    """Two places of which neither is told to be ahead of the other."""

    def __init__(self, places):
        super().__init__(f"neither is told to be ahead of the other: {places}")
        self.places = places


class NoLine(WebError):
    """What is no line for a desk."""


class NoWord(WebError):
    """A word that cannot be a new name at a desk."""
