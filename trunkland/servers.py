"""Servers: replying to a request, and remembering it (point 6)."""

from trunkland.letters import is_final, write
from trunkland.timing import Wait


class Server:
    """A server for a request that came from a place."""

    def __init__(self, letter, place, first):
        self.letter = letter
        self.place = place
        self.state = "open"
        # The code of the latest reply tells a leg which reply to a CALL was given up.
        self.code = None
        self._first = first
        self._wait = None
        self._latest = []

    def matches(self, letter, place):
        """Tell whether a letter from a place is the same request, or the KEEP of its reply."""
        own = self.letter
        if letter.code is not None or place != self.place:
            return False
        if letter.verb != own.verb and not (letter.verb == "KEEP" and own.verb == "CALL"):
            return False
        return (letter.call, letter.origin_tag, letter.seq, letter.way) == (own.call, own.origin_tag, own.seq, own.way)

    def again(self):
        """Take the request once more and return what is sent."""
        return list(self._latest) if self.state in ("open", "sent") else []

    def reply(self, letter, now):
        """Send a reply, if the server is open, and return what is sent."""
        if self.state != "open":
            return []
        self.code = letter.code
        self._latest = [(self.place, write(letter))]
        if is_final(letter.code):
            self.state = "sent"
            self._wait = Wait(now, self._first)
        return list(self._latest)

    def keep(self, now):
        """Take a KEEP. Return True if it is the first one."""
        # A KEEP belongs to a CALL only (point 6.1), so it means nothing to the reply to another request.
        if self.state != "sent" or self.letter.verb != "CALL":
            return False
        self.state = "kept"
        self._wait = Wait(now, self._first)
        return True

    def tick(self, now):
        """Let the tick pass. Return what is sent, and True if the reply to a CALL is given up in this tick."""
        if self.state not in ("sent", "kept"):
            return ([], False)
        waits_for_keep = self.state == "sent" and self.letter.verb == "CALL"
        if self._wait.is_up(now):
            self.state = "over"
            return ([], waits_for_keep)
        if waits_for_keep and self._wait.repeats(now):
            return (list(self._latest), False)
        return ([], False)

    def is_over(self):
        """Tell whether the server is over."""
        return self.state == "over"
