"""Connections: a call of the exchange, with the legs of its sides and those that call (points 14.4 to 14.7)."""

from trunkland.legs import NO_ANSWER, NOT_NOW
from trunkland.words import split_address

NO_USER = 43
# How a call ends if the leg of a side has been ended by its phone, for each side.
ENDED_BY = ("caller", "callee")


class Connection:
    """A call of an exchange, from its beginning to its end."""

    def __init__(self, exchange, number, leg, now):
        self.number = number
        self.has_ended = False
        self._exchange = exchange
        # The caller's leg took the CALL: its own address is the callee's.
        self._caller = leg.other
        self._callee = leg.own
        self._began = now
        # The leg of side 0, and the leg of side 1 as soon as the call is answered.
        self._sides = [leg]
        self._ringing = []
        # The codes that count for the legs that are over without having won.
        self._codes = []
        self._has_rung = False
        # The legs of the move that is under way, the side that asked for it, and its beginning.
        self._movers = []
        self._asker = 0
        self._move_began = now
        self._report(("begin", now, number, self._caller, self._callee))

    def legs(self):
        """Return the legs of the call in the order of point 14.8."""
        return self._sides + self._ringing + self._movers

    def call_callee(self, offer, now):
        """Let a leg call each place of the callee, or end the call if there is none."""
        self._ringing = self._make_legs(self._callee, self._caller, offer, now)
        if not self._ringing:
            return self.end("refused", NO_USER, now)
        return self._call_all(self._ringing, offer, now)

    def treat(self, leg, event, now):
        """Do what follows from an event of a leg, if it still belongs to the call."""
        if self.has_ended:
            return []
        if leg in self._ringing:
            return self._treat_ringing(leg, event, now)
        if leg in self._movers:
            return self._treat_mover(leg, event, now)
        if leg in self._sides:
            return self._treat_side(self._sides.index(leg), event, now)
        return []

    def lose_patience(self, patience, now):
        """End the call, or its move, if it has not been answered in time."""
        if len(self._sides) == 1:
            return self.end("unanswered", NO_ANSWER, now) if now - self._began >= patience else []
        if not self._movers or now - self._move_began < patience:
            return []
        movers = self._movers
        self._movers = []
        return self._hang_up_all(movers, now)

    def end(self, why, code, now):
        """End the call; a caller that still waits is refused with the code."""
        self.has_ended = True
        self._report(("end", now, self.number, why))
        ledger = self._exchange.ledger
        if ledger.is_open(self.number):
            ledger.finish(self.number, now)
        return self._sides[0].refuse(code, now) + self._hang_up_all(self.legs(), now)

    def _report(self, event):
        self._exchange.events.append(event)

    def _make_legs(self, address, own, offer, now):
        exchange = self._exchange
        user, host = split_address(address)
        if host != exchange.config.host:
            return []
        return [exchange.station.call_out(own, address, place, offer) for place in exchange.places.of(user, now)]

    def _call_all(self, legs, offer, now):
        sent = []
        for leg in legs:
            sent.extend(leg.call_out(offer, now))
        return sent

    def _hang_up_all(self, legs, now):
        sent = []
        for leg in legs:
            sent.extend(leg.hang_up(now))
        return sent

    def _treat_ringing(self, leg, event, now):
        name = event[0]
        if name == "rang":
            return self._ring(now)
        if name == "answered":
            return self._answer(leg, event[1], now) if event[1] is not None else leg.hang_up(now)
        return self._lose_ringing(leg, event, now) if name == "over" else []

    def _ring(self, now):
        if self._has_rung:
            return []
        self._has_rung = True
        self._report(("ring", now, self.number))
        return self._sides[0].ring(now)

    def _answer(self, leg, offer, now):
        caller_leg = self._sides[0]
        others = [other for other in self._ringing if other != leg]
        self._ringing = []
        self._sides = [caller_leg, leg]
        sent = self._hang_up_all(others, now)
        self._exchange.ledger.begin(self.number, self._caller, self._callee, now)
        self._report(("answer", now, self.number, leg.place))
        caller_leg.able = offer
        return sent + caller_leg.accept(offer, now)

    def _lose_ringing(self, leg, event, now):
        _, why, code = event
        self._ringing.remove(leg)
        self._codes.append(code if why == "failed" else NO_ANSWER)
        return [] if self._ringing else self.end("refused", max(self._codes), now)

    def _treat_side(self, side, event, now):
        name = event[0]
        if name == "over":
            return self.end(ENDED_BY[side] if event[1] == "ended" else event[1], NOT_NOW, now)
        if name == "turned":
            offer = event[1]
            self._report(("turn", now, self.number, side, offer[1]))
            return self._pass_on(side, offer, now)
        return self._begin_move(side, event[1], now) if name == "moved" else []

    def _pass_on(self, side, offer, now):
        """Let the other side know the offer of a side."""
        other_leg = self._sides[1 - side]
        other_leg.able = offer
        return other_leg.turn(offer, now)

    def _begin_move(self, side, goal, now):
        if self._movers:
            return []
        offer = self._sides[side].able
        self._movers = self._make_legs(goal, self._caller if side == 1 else self._callee, offer, now)
        if not self._movers:
            return []
        self._asker = side
        self._move_began = now
        self._report(("move", now, self.number, side, goal))
        return self._call_all(self._movers, offer, now)

    def _treat_mover(self, leg, event, now):
        name = event[0]
        if name == "answered":
            return self._finish_move(leg, event[1], now) if event[1] is not None else leg.hang_up(now)
        if name == "over":
            self._movers.remove(leg)
        return []

    def _finish_move(self, leg, offer, now):
        side = self._asker
        replaced = self._sides[side]
        others = [other for other in self._movers if other != leg]
        self._movers = []
        leg.able = replaced.able
        self._sides[side] = leg
        sent = self._hang_up_all([*others, replaced], now)
        self._report(("moved", now, self.number, side))
        return sent + self._pass_on(side, offer, now)
