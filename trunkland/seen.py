"""The call that the user of a phone sees (points 15.2 and 15.3)."""

from trunkland.legs import NO_FORMAT
from trunkland.offers import answer


class SeenCall:
    """A call that the user of a phone sees from the tick `now` on; a call that came has an offer."""

    def __init__(self, leg, offer, now):
        self.leg = leg
        self._offer = offer
        self._began = now

    def has_lasted(self, ticks, now):
        """Tell whether so many ticks have passed since the call began."""
        return now - self._began >= ticks

    def accept(self, able, now):
        """Answer the call with what a phone is able to do. Return what is sent."""
        leg = self.leg
        answered = answer(able, self._offer)
        if answered is None:
            return leg.refuse(NO_FORMAT, now)
        leg.able = answered
        return leg.accept(answered, now)

    def turn(self, offer, now):
        """Turn to another offer if the call is talking. Return what is sent."""
        leg = self.leg
        if leg.state != "talking":
            return []
        leg.able = offer
        return leg.turn(offer, now)
