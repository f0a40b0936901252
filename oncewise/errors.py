"""The refusals, each of its own class straight under OnceError."""


class OnceError(ValueError):
    pass


class NoWord(OnceError):
    pass


class BadText(OnceError):
    pass


class BadWeb(OnceError):
    pass


class BadTree(OnceError):
    pass


class BadChoices(OnceError):
    pass


class NoTree(OnceError):
    # A list of its own: whoever catches the refusal may change it freely.
    def __init__(self, words, choices):
        OnceError.__init__(self, words)
        self.choices = list(choices)


class NoCut(OnceError):
    pass


class NoExchange(OnceError):
    pass


class OtherWeb(OnceError):
    pass


class TooMany(OnceError):
    pass
