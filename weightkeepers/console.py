"""The console, which keeps definitions and the entries of its worksheet."""

from weightkeepers.errors import Refused
from weightkeepers.log import write_log
from weightkeepers.replies import defined, reply_to


class Console:
    """A worksheet to which lines are added; at most `most` of them."""

    def __init__(self, *, most=300):
        self._most = most
        self._names = {}
        self._entries = []

    def __len__(self):
        return len(self._entries)

    def __iter__(self):
        return iter(self._entries)

    def enter(self, line):
        """Add a line and the reply to it, and return this reply."""
        if len(self._entries) >= self._most:
            raise Refused("lines")
        reply = reply_to(self._names, line)
        told = defined(self._names, line)
        if told is not None:
            name, code = told
            self._names[name] = code
        self._entries.append((line, reply))
        return reply

    def names(self):
        """Return a new dict from the defined names to their codes."""
        return dict(self._names)

    def log(self):
        """Return the written form of the entries."""
        return write_log(self._entries)
