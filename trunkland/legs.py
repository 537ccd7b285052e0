"""Legs: one side of a call, kept with the station at another place (point 7)."""

from trunkland.clients import Client
from trunkland.letters import Letter
from trunkland.offers import answer
from trunkland.servers import Server

# Of these requests at most one waits for its reply at a time.
ASKING = ("TURN", "MOVE", "LIVE")
BEFORE_TALKING = ("calling", "ringing")
MOST_WAITING = 8
MOST_SERVERS = 16
RINGS = 18
YES = 20
NO_CALL = 41
BUSY = 44
STOPPED = 45
NO_FORMAT = 46
NO_ANSWER = 48
NOT_NOW = 50


class Leg:
    """A side of a call, in the state "new" until `call_out` or `call_in` is called."""

    def __init__(self, *, tag, call, own, other, place, able, first, check, seq=0):
        self.tag = tag
        self.call = call
        self.own = own
        self.other = other
        self.place = place
        self.able = able
        self.first = first
        self.check = check
        self.other_tag = ""
        self.state = "new"
        self._seq = seq
        self._requests = 0
        self.took_call = False
        self._greatest_taken = -1
        self._clients = []
        self._servers = []
        # The TURNs and MOVEs that wait, each as its verb, offer and goal.
        self._waiting = []
        # The tick from which on a LIVE is due, while the leg talks and none waits for its reply.
        self._live_due = 0
        self._events = []

    def call_out(self, offer, now):
        """Send a CALL."""
        self.state = "calling"
        return self._send("CALL", now, offer)

    def call_in(self, letter):
        """Take a CALL."""
        self.state = "offered"
        self.took_call = True
        self.other_tag = letter.origin_tag
        self._serve(letter, self.place)

    def ring(self, now):
        """Tell the other side that it rings here."""
        return self._reply_to_call(now, RINGS) if self.state == "offered" else []

    def accept(self, offer, now):
        """Answer the call with an offer."""
        if self.state != "offered":
            return []
        self._talk(now)
        return self._reply_to_call(now, YES, offer)

    def refuse(self, code, now):
        """Refuse the call with a code."""
        if self.state != "offered":
            return []
        self._end("refused", code)
        return self._reply_to_call(now, code)

    def hang_up(self, now):
        """Hang up, whatever the state of the call."""
        if self.state == "offered":
            return self.refuse(BUSY, now)
        if self.state == "talking":
            self._end("hung", YES)
            return self._send("END", now)
        if self.state in BEFORE_TALKING:
            self._stop_call(now)
            self._end("hung", STOPPED)
            return self._send("STOP", now)
        return []

    def turn(self, offer, now):
        """Send the other side another offer."""
        return self._ask("TURN", now, offer, None)

    def move(self, goal, now):
        """Ask the other side to be connected to a goal."""
        return self._ask("MOVE", now, None, goal)

    def receive(self, letter, place, now):
        """Take a letter of this call from a place."""
        if letter.code is not None:
            return self._take_reply(letter, now)
        for server in self._servers:
            if server.matches(letter, place):
                return self._take_known(server, letter, now)
        if letter.verb == "KEEP" or letter.seq <= self._greatest_taken or self._has_most_servers():
            return []
        return self._take_new(self._serve(letter, place), now)

    def tick(self, now):
        """Let the tick pass."""
        sent = []
        for client in list(self._clients):
            repeated, given_up = client.tick(now)
            sent.extend(repeated)
            if given_up:
                sent.extend(self._give_up_request(client.letter.verb, now))
        for server in list(self._servers):
            repeated, given_up = server.tick(now)
            sent.extend(repeated)
            if given_up and server.code == YES:
                sent.extend(self._lose(now))
        sent.extend(self._send_live(now))
        self._forget_those_over()
        return sent

    def take_events(self):
        """Return the events since the last such call."""
        events = self._events
        self._events = []
        return events

    def is_done(self):
        """Tell whether the leg is over with all its clients and servers."""
        return (self.state == "over" and all([client.is_over() for client in self._clients])
                and all([server.is_over() for server in self._servers]))

    def _send(self, verb, now, offer=None, goal=None):
        self._seq += 1
        self._requests += 1
        letter = Letter(verb=verb, call=self.call, origin=self.own, origin_tag=self.tag, target=self.other,
                        target_tag=self.other_tag, seq=self._seq, way=f"{self.tag}w{self._requests}",
                        offer=offer, goal=goal)
        client = Client(letter, self.place, now, self.first)
        self._clients.append(client)
        return client.sending()

    def _serve(self, letter, place):
        self._greatest_taken = letter.seq
        server = Server(letter, place, self.first)
        self._servers.append(server)
        return server

    def _reply(self, server, now, code, offer=None):
        return server.reply(server.letter.reply(code, self.tag, offer), now)

    def _reply_to_call(self, now, code, offer=None):
        # The server of the CALL that began the leg is the first one, and not over while the leg is offered.
        return self._reply(self._servers[0], now, code, offer)

    def _talk(self, now):
        self.state = "talking"
        self._live_due = now + self.check

    def _end(self, why, code):
        self.state = "over"
        self._waiting = []
        self._events.append(("over", why, code))

    def _stop_call(self, now):
        for client in self._clients:
            if client.letter.verb == "CALL":
                client.stop(now)

    def _ask(self, verb, now, offer, goal):
        if self.state != "talking":
            return []
        if not self._is_asking():
            return self._send(verb, now, offer, goal)
        if len(self._waiting) < MOST_WAITING:
            self._waiting.append((verb, offer, goal))
        return []

    def _is_asking(self):
        return any([client.letter.verb in ASKING and not client.is_over() for client in self._clients])

    def _send_waiting(self, now):
        if not self._waiting:
            return []
        verb, offer, goal = self._waiting.pop(0)
        return self._send(verb, now, offer, goal)

    def _has_most_servers(self):
        return len([server for server in self._servers if not server.is_over()]) >= MOST_SERVERS

    def _take_known(self, server, letter, now):
        if letter.verb != "KEEP":
            return server.again()
        if server.keep(now) and self.state == "talking":
            self._events.append(("kept",))
        return []

    def _take_new(self, server, now):
        verb = server.letter.verb
        if verb == "END":
            return self._take_end(server, now)
        if verb == "STOP":
            return self._take_stop(server, now)
        if verb not in ASKING or self.state in BEFORE_TALKING:
            return self._reply(server, now, NOT_NOW)
        if self.state != "talking":
            return self._reply(server, now, NO_CALL)
        if verb == "TURN":
            return self._take_turn(server, now)
        return self._take_move(server, now) if verb == "MOVE" else self._reply(server, now, YES)

    def _take_end(self, server, now):
        if self.state != "talking" and self.state not in BEFORE_TALKING:
            return self._reply(server, now, NO_CALL)
        self._stop_call(now)
        self._end("ended", YES)
        return self._reply(server, now, YES)

    def _take_stop(self, server, now):
        if self.state == "offered":
            self._end("stopped", STOPPED)
            return self._reply_to_call(now, STOPPED) + self._reply(server, now, YES)
        is_answered = self.state == "talking" and self.took_call
        return self._reply(server, now, YES if is_answered else NO_CALL)

    def _take_turn(self, server, now):
        offer = server.letter.offer
        if offer is None:
            return self._reply(server, now, NOT_NOW)
        answered = answer(self.able, offer)
        if answered is None:
            return self._reply(server, now, NO_FORMAT)
        self._events.append(("turned", offer))
        return self._reply(server, now, YES, answered)

    def _take_move(self, server, now):
        goal = server.letter.goal
        if goal is None:
            return self._reply(server, now, NOT_NOW)
        self._events.append(("moved", goal))
        return self._reply(server, now, YES)

    def _take_reply(self, reply, now):
        for client in list(self._clients):
            if client.letter.way == reply.way and client.letter.verb == reply.verb:
                sent, code = client.take(reply, now)
                return sent + self._follow(reply, now) if code is not None else sent
        return []

    def _follow(self, reply, now):
        """Do what follows from a reply that a client reports, and return what is sent behind the client's letters."""
        if reply.verb == "CALL":
            return self._follow_call(reply, now)
        if self.state != "talking":
            return []
        if reply.code == NO_CALL:
            self._end("lost", NO_CALL)
            return []
        if reply.verb == "LIVE":
            self._live_due = now + self.check
        elif reply.verb == "TURN":
            self._events.append(("turn replied", reply.code, reply.offer))
        else:
            self._events.append(("move replied", reply.code))
        return self._send_waiting(now)

    def _follow_call(self, reply, now):
        if reply.code == RINGS:
            if self.state == "calling":
                self.state = "ringing"
                self._events.append(("rang",))
            return []
        if reply.code == YES:
            self.other_tag = reply.target_tag
        if self.state not in BEFORE_TALKING:
            # The call ended while its answer was on the way, so the other side must be told.
            return self._send("END", now) if reply.code == YES else []
        if reply.code == YES:
            self._talk(now)
            self._events.append(("answered", reply.offer))
        else:
            self._end("failed", reply.code)
        return []

    def _give_up_request(self, verb, now):
        if verb == "CALL" and self.state in BEFORE_TALKING:
            self._end("failed", NO_ANSWER)
        return self._lose(now) if verb in ASKING else []

    def _lose(self, now):
        if self.state != "talking":
            return []
        self._end("lost", NO_ANSWER)
        return self._send("END", now)

    def _send_live(self, now):
        if self.state != "talking" or now < self._live_due or self._is_asking():
            return []
        return self._send("LIVE", now)

    def _forget_those_over(self):
        self._clients = [client for client in self._clients if not client.is_over()]
        self._servers = [server for server in self._servers if not server.is_over()]
