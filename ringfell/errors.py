"""The refusals, each a class straight beneath WebError."""


class WebError(ValueError):
    pass


class BadWeb(WebError):
    def __init__(self, at):
        WebError.__init__(self, f"no web can be made of this: {at}")
        self.at = at


class NoStep(WebError):
    def __init__(self, at):
        WebError.__init__(self, f"this step can't be done: {at}")
        self.at = at


class NoText(WebError):
    def __init__(self, at):
        WebError.__init__(self, f"this word can't stand there: {at}")
        self.at = at


class TooMany(WebError):
    pass


class NoTie(WebError):
    pass


class NoRing(WebError):
    pass


class NotClear(WebError):
    pass


class NotThree(WebError):
    pass


class BadBoard(WebError):
    pass


class NoRow(WebError):
    pass


class NoBack(WebError):
    pass
