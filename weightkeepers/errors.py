"""The errors that the program raises."""


class Fault(ValueError):
    """The base class of all errors of the program."""


class Malformed(Fault):
    """A value has not the form that it must have."""


class Refused(Fault):
    """A value has its form, but is refused; `reason` is a string of small letters."""

    def __init__(self, reason):
        super().__init__(f"refused: {reason}")
        self.reason = reason


class NoText(Fault):
    """A text is not the written form of anything; `at` is the integer that tells where."""

    def __init__(self, at):
        super().__init__(f"no text: {at}")
        self.at = at
