"""The refusals, all straight under AskError."""


class AskError(ValueError):
    pass


class NoTree(AskError):
    def __init__(self, part, number):
        AskError.__init__(self, f"no tree: {part}, at {number}")
        self.part = part
        self.number = number


class NoAsks(AskError):
    def __init__(self, number):
        AskError.__init__(self, f"no asks: at {number}")
        self.number = number


class NoKeep(AskError):
    def __init__(self, number):
        AskError.__init__(self, f"no keep: at {number}")
        self.number = number


class NoPrices(AskError):
    def __init__(self, number):
        AskError.__init__(self, f"no prices: at {number}")
        self.number = number


class NoShare(AskError):
    def __init__(self, number):
        AskError.__init__(self, f"no share by this rule: ask {number}")
        self.number = number


class NoPointing(AskError):
    def __init__(self, ring):
        AskError.__init__(self, "no pointing: there is a ring")
        # A list of its own, so that the maker's list and the told one stay apart.
        self.ring = list(ring) if isinstance(ring, list) else ring


class NoText(AskError):
    def __init__(self, row):
        AskError.__init__(self, f"no text that can be read: row {row}")
        self.row = row


class NoNumber(AskError):
    pass


class NoPlace(AskError):
    pass


class NoChange(AskError):
    pass


class TooMany(AskError):
    pass


class NoRow(AskError):
    pass


class NoName(AskError):
    pass
