"""Phones: stations with one user, who sees at most one call at a time (point 15)."""

from trunkland.clients import Client
from trunkland.legs import BEFORE_TALKING, BUSY, NO_ANSWER, NOT_NOW
from trunkland.letters import Letter
from trunkland.offers import held
from trunkland.seen import SeenCall
from trunkland.stations import Station, read_letter


class Phone:
    """A phone; no call is seen at first."""

    def __init__(self, *, place, user, host, able, first=2, check=50, patience=100, auto=None):
        self.place = place
        self.user = user
        self.host = host
        self.able = able
        self.first = first
        self.check = check
        self.patience = patience
        self.auto = auto
        self.events = []
        self._station = Station("p", first, check, 0)
        self._seen = None
        # The SIGNs that wait for their replies, and how many there have been.
        self._signs = []
        self._signed = 0

    def sign(self, stay, now):
        """Sign on for a number of ticks. Return what is sent."""
        self._signed += 1
        own = self._address(self.user)
        way = f"s{self._signed}"
        letter = Letter(verb="SIGN", call=way, origin=own, origin_tag="s", target=own, target_tag="",
                        seq=self._signed, way=way, stay=stay)
        client = Client(letter, self.host, now, self.first)
        self._signs.append(client)
        return client.sending()

    def dial(self, user, now):
        """Call a user, if no call is seen. Return what is sent."""
        if self._seen is not None:
            return []
        address = self._address(user)
        leg = self._station.call_out(self._address(self.user), address, self.host, self.able)
        self._seen = SeenCall(leg, None, now)
        self.events.append(("dial", now, leg.tag, address))
        return leg.call_out(self.able, now)

    def answer(self, now):
        """Answer the call, if it is offered. Return what is sent."""
        if self.state() != "offered":
            return []
        sent = self._seen.accept(self.able, now)
        if self.state() == "talking":
            self.events.append(("talk", now, self._seen.leg.tag))
        self._tell(now)
        return sent

    def hang_up(self, now):
        """Hang up the call, if one is seen. Return what is sent."""
        if self._seen is None:
            return []
        sent = self._seen.leg.hang_up(now)
        self._tell(now)
        return sent

    def hold(self, now):
        """Take no voice any more, if the call is talking. Return what is sent."""
        return self._seen.turn(held(self.able), now) if self._seen is not None else []

    def resume(self, now):
        """Send and take voice again, if the call is talking. Return what is sent."""
        return self._seen.turn(self.able, now) if self._seen is not None else []

    def move(self, user, now):
        """Ask for the other side to be connected to a user, if the call is talking. Return what is sent."""
        return self._seen.leg.move(self._address(user), now) if self._seen is not None else []

    def receive(self, text, place, now):
        """Take a text that arrives from a place. Return what is sent."""
        letter = read_letter(text)
        if letter is None or place != self.host:
            return []
        if letter.code is not None and self._is_signing(letter.way):
            self._take_reply_to_sign(letter, now)
            return []
        leg = self._station.leg_for(letter, place)
        if leg is None:
            return self._receive_without_leg(letter, place, now)
        sent = leg.receive(letter, place, now)
        self._tell(now)
        return sent

    def tick(self, now):
        """Let the tick pass. Return what is sent."""
        sent = []
        for client in self._signs:
            repeated, _ = client.tick(now)
            sent.extend(repeated)
        self._forget_signs()
        sent.extend(self._station.tick(now))
        self._tell(now)
        sent.extend(self._lose_patience(now))
        self._station.forget_done()
        return sent

    def state(self):
        """Return the state of the call that is seen, or "idle"."""
        return self._seen.leg.state if self._seen is not None else "idle"

    def is_quiet(self):
        """Tell whether the phone has no legs and waits for no reply to a SIGN."""
        return self._station.is_empty() and not self._signs

    def _address(self, user):
        return f"{user}@{self.host}"

    def _is_signing(self, way):
        return any([client.letter.way == way for client in self._signs])

    def _take_reply_to_sign(self, reply, now):
        for client in self._signs:
            if client.letter.way == reply.way:
                client.take(reply, now)
        self._forget_signs()

    def _forget_signs(self):
        self._signs = [client for client in self._signs if not client.is_over()]

    def _receive_without_leg(self, letter, place, now):
        if letter.code is not None or letter.verb == "KEEP":
            return []
        if letter.verb == "CALL" and letter.target_tag == "":
            return self._take_call(letter, place, now)
        return self._station.deny(letter, place)

    def _take_call(self, letter, place, now):
        if not self._station.takes(letter, place):
            return []
        # A CALL may name another user, but the phone speaks for its own one only.
        leg = self._station.call_in(self._address(self.user), letter, place, self.able)
        if self._seen is not None:
            return leg.refuse(BUSY, now)
        if letter.offer is None:
            return leg.refuse(NOT_NOW, now)
        self._seen = SeenCall(leg, letter.offer, now)
        self.events.append(("incoming", now, leg.tag, leg.other))
        return leg.ring(now)

    def _tell(self, now):
        """Tell the user what has happened to the call that is seen."""
        if self._seen is None:
            return
        leg = self._seen.leg
        for event in leg.take_events():
            name = event[0]
            if name == "rang":
                self.events.append(("rang", now, leg.tag))
            elif name == "answered":
                self.events.append(("talk", now, leg.tag))
            elif name == "turned":
                self.events.append(("turned", now, leg.tag, event[1][1]))
            elif name == "over":
                self.events.append(("end", now, leg.tag, event[1], event[2]))
                self._seen = None

    def _lose_patience(self, now):
        """Do what the phone does by itself, as the user has not done it in time. Return what is sent."""
        state = self.state()
        if state == "offered" and self.auto is not None and self._seen.has_lasted(self.auto, now):
            return self.answer(now)
        if state == "offered" and self._seen.has_lasted(self.patience, now):
            sent = self._seen.leg.refuse(NO_ANSWER, now)
            self._tell(now)
            return sent
        if state in BEFORE_TALKING and self._seen.has_lasted(self.patience, now):
            return self.hang_up(now)
        return []
