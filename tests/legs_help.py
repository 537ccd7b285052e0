"""What the tests of legs share: legs in each state, letters of the other side, and what is sent, told in short."""

import unittest

from trunkland.legs import Leg
from trunkland.letters import Letter, read, write

ABLE = (4000, "both", ("a", "b"))
OFFER = (5000, "send", ("c", "b"))
# What ABLE answers to OFFER.
ANSWER = (4000, "take", ("b",))
STRANGE = (5000, "both", ("x", "y"))
FINALS = [20, 41, 43, 44, 45, 46, 48, 50]
# After these many first gaps a letter is sent again: gaps of 1, 2, 4, 8, 8 and 8.
AGAIN = [1, 3, 7, 15, 23, 31]
LIMIT = 32


def short(sent):
    """Tell what is sent as "VERB seq" for requests and "VERB seq code" for replies."""
    letters = [read(text) for _, text in sent]
    return [f"{letter.verb} {letter.seq}" + ("" if letter.code is None else f" {letter.code}") for letter in letters]


class LegCase(unittest.TestCase):
    """The leg has the tag t1, the other side the tag r1; it is at the place q."""

    def make(self, first=2, check=50, seq=0):
        self.now = 100
        self.seq = 30
        self.leg = Leg(tag="t1", call="c1", own="ann@x", other="bob@x", place="q", able=ABLE, first=first,
                       check=check, seq=seq)
        return self.leg

    def calling(self, **more):
        leg = self.make(**more)
        leg.call_out(OFFER, self.now)
        return leg

    def ringing(self, **more):
        leg = self.calling(**more)
        self.reply("CALL", 1, 18)
        leg.take_events()
        return leg

    def caller(self, **more):
        """A leg that talks and sent the CALL."""
        leg = self.calling(**more)
        self.reply("CALL", 1, 20, offer=OFFER)
        leg.take_events()
        return leg

    def offered(self, **more):
        leg = self.make(**more)
        self.call = self.letter("CALL", 30, target_tag="", offer=OFFER)
        self.assertIsNone(leg.call_in(self.call))
        return leg

    def callee(self, **more):
        """A leg that talks and took the CALL."""
        leg = self.offered(**more)
        leg.accept(ABLE, self.now)
        return leg

    def over(self, **more):
        leg = self.callee(**more)
        leg.hang_up(self.now)
        leg.take_events()
        return leg

    def states(self, **more):
        """Make a leg in each state in turn; a leg that talks comes as "caller" or "callee"."""
        for name in ["calling", "ringing", "offered", "caller", "callee", "over"]:
            yield name, getattr(self, name)(**more)

    def letter(self, verb, seq, **more):
        """A request of the other side."""
        parts = {"verb": verb, "call": "c1", "origin": "bob@x", "origin_tag": "r1", "target": "ann@x",
                 "target_tag": "t1", "seq": seq, "way": f"r1w{seq}"}
        parts.update(more)
        return Letter(**parts)

    def take(self, verb, place="q", **more):
        """Let the leg take the next request of the other side."""
        self.seq += 1
        self.taken = self.letter(verb, self.seq, **more)
        return self.leg.receive(self.taken, place, self.now)

    def request(self, verb, number, **more):
        """The request of the leg with this number, as it should be."""
        parts = {"verb": verb, "call": "c1", "origin": "ann@x", "origin_tag": "t1", "target": "bob@x",
                 "target_tag": "r1", "seq": number, "way": f"t1w{number}"}
        parts.update(more)
        return Letter(**parts)

    def reply(self, verb, number, code, tag="r1", offer=None):
        """Let the leg take a reply to its request with this number."""
        return self.leg.receive(self.request(verb, number).reply(code, tag, offer), "q", self.now)

    def sending(self, *letters):
        return [("q", write(letter)) for letter in letters]

    def ticks(self, many):
        """Let ticks pass. Return each tick in which something is sent, with what is sent in short."""
        found = []
        for _ in range(many):
            self.now += 1
            sent = self.leg.tick(self.now)
            if sent:
                found.append((self.now, short(sent)))
        return found

    def when(self, many, told):
        """Let ticks pass. Return those in which this is sent."""
        return [now for now, found in self.ticks(many) if told in found]

    def check(self, state, events):
        self.assertEqual(self.leg.state, state)
        self.assertEqual(self.leg.take_events(), events)
