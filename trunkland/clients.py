"""Clients: sending a request until it is replied to or given up (point 5)."""

from trunkland.letters import Letter, is_final, write
from trunkland.timing import Wait


class Client:
    """A client that sends a request to a place, from the tick `now` on."""

    def __init__(self, letter, place, now, first):
        self.letter = letter
        self.place = place
        self.state = "calling"
        self._first = first
        self._wait = Wait(now, first)
        self._keep = []

    def sending(self):
        """Return the request as it is sent."""
        return [(self.place, write(self.letter))]

    def take(self, reply, now):
        """Take a reply. Return what is sent, and the code if it is reported, otherwise None."""
        if self.state == "over":
            return ([], None)
        if not is_final(reply.code):
            return ([], self._take_provisional(reply))
        if self.letter.verb != "CALL":
            self.state = "over"
            return ([], reply.code)
        if self.state == "final":
            return (list(self._keep), None)
        self.state = "final"
        self._wait = Wait(now, self._first)
        self._keep = [(self.place, write(self._keep_for(reply)))]
        return (list(self._keep), reply.code)

    def stop(self, now):
        """Stop the client if it is calling or waiting."""
        if self.state in ("calling", "waiting"):
            self.state = "stopping"
            self._wait = Wait(now, self._first)

    def tick(self, now):
        """Let the tick pass. Return what is sent, and True if the request is given up in this tick."""
        if self.state in ("waiting", "over"):
            return ([], False)
        if self._wait.is_up(now):
            given_up = self.state != "final"
            self.state = "over"
            return ([], given_up)
        if self.state == "calling" and self._wait.repeats(now):
            return (self.sending(), False)
        return ([], False)

    def is_over(self):
        """Tell whether the client is over."""
        return self.state == "over"

    def _take_provisional(self, reply):
        if self.letter.verb != "CALL" or self.state == "final":
            return None
        if self.state == "calling":
            self.state = "waiting"
        return reply.code

    def _keep_for(self, reply):
        call = self.letter
        return Letter(verb="KEEP", call=call.call, origin=call.origin, origin_tag=call.origin_tag, target=call.target,
                      target_tag=reply.target_tag, seq=call.seq, way=call.way)
