"""The errors of callsthrough, each with the one value that was judged."""


# The messages leave the judged value out: Python cannot write an integer of
# some thousand digits, and an error must not fail while it is shown.
class CallError(ValueError):
    """The base class of all errors of callsthrough."""


class BadShare(CallError):
    """An argument makes no share: `field` names it."""

    def __init__(self, field):
        super().__init__("an argument makes no share")
        self.field = field


class BadExchange(CallError):
    """An argument makes no exchange: `field` names it."""

    def __init__(self, field):
        super().__init__("an argument makes no exchange")
        self.field = field


class NoStanding(CallError):
    """`thing` is no standing of the exchange."""

    def __init__(self, thing):
        super().__init__("the value is no standing")
        self.thing = thing


class NoShape(CallError):
    """`thing` is no shape of the exchange."""

    def __init__(self, thing):
        super().__init__("the value is no shape")
        self.thing = thing


class NoPair(CallError):
    """`thing` is no pair of the exchange."""

    def __init__(self, thing):
        super().__init__("the value is no pair")
        self.thing = thing


class NoDoor(CallError):
    """A switch has no free door: `side` is "in" or "out"."""

    def __init__(self, side):
        super().__init__("the switch has no free door")
        self.side = side


class NoMiddle(CallError):
    """`thing` is no middle that can be used here."""

    def __init__(self, thing):
        super().__init__("the value is no middle for this")
        self.thing = thing


class NoCall(CallError):
    """`thing` tells no call that is up."""

    def __init__(self, thing):
        super().__init__("there is no such call")
        self.thing = thing


class BadCalls(CallError):
    """A list of pairs cannot stand: `at` is the first bad index, or -1."""

    def __init__(self, at):
        super().__init__("the list of calls is not right")
        self.at = at


class BadRule(CallError):
    """A choice makes no rule: `key` is the choice or the first bad key."""

    def __init__(self, key):
        super().__init__("the choice makes no rule")
        self.key = key


class BadDeed(CallError):
    """A row of deeds is not right: `at` is the first bad index, or -1."""

    def __init__(self, at):
        super().__init__("the row of deeds is not right")
        self.at = at


class BadDiary(CallError):
    """A diary is not right: `at` is the first bad index, or -1."""

    def __init__(self, at):
        super().__init__("the diary is not right")
        self.at = at


class BadCount(CallError):
    """`thing` is no number of calls or moves."""

    def __init__(self, thing):
        super().__init__("the value is no count")
        self.thing = thing


class NotNext(CallError):
    """The shape `thing` does not let one call more."""

    def __init__(self, thing):
        super().__init__("the shape does not let one call more")
        self.thing = thing


class NoRoom(CallError):
    """The calls need more middles than the `middles` that there are."""

    def __init__(self, middles):
        super().__init__("there are too few middles")
        self.middles = middles


class Unlike(CallError):
    """Two arguments differ where they must be equal: in `field`."""

    def __init__(self, field):
        super().__init__("the two are not alike")
        self.field = field


class TooMany(CallError):
    """There are more things to look at than `most`."""

    def __init__(self, most):
        super().__init__("there are too many to look at")
        self.most = most


class BadText(CallError):
    """`thing` is no text, or the text of nothing."""

    def __init__(self, thing):
        super().__init__("the value is no written form")
        self.thing = thing
