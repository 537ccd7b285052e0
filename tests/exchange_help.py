"""What the tests of the exchange share: an exchange, the far ends of its legs, and what is sent, told in short."""

import unittest

from trunkland.config import Config
from trunkland.exchange import start
from trunkland.letters import Letter, read, write
from trunkland.offers import write_offer
from trunkland.tariffs import Tariff

TARIFF = Tariff(10, [(2, 30)], 1)
ABLE = (40, "both", ("a", "b"))
THEIRS = (50, "both", ("b", "a"))
OTHERS = (60, "both", ("a", "c"))
STATIONS = ["p", "q", "r", "s", "t"]
USERS = ["ann", "bob", "cat", "dan"]
# After these many first gaps a letter is sent again: gaps of 1, 2, 4, 8, 8 and 8.
AGAIN = [1, 3, 7, 15, 23, 31]
LIMIT = 32


def make_config(**more):
    parts = {"host": "x", "users": list(USERS), "stations": list(STATIONS), "tariff": TARIFF}
    parts.update(more)
    return Config(**parts)


def tell(place, text):
    """Tell a letter in short: the place, the code of a reply, the verb, the tags and the number, and what it carries.

    A CALL that goes out also tells its addresses.
    """
    letter = read(text)
    words = [place] + ([str(letter.code)] if letter.code is not None else []) + [letter.verb]
    if letter.verb == "CALL" and letter.code is None:
        words.append(f"{letter.origin}>{letter.target}")
    words += [f"{letter.origin_tag}>{letter.target_tag}", str(letter.seq)]
    if letter.offer is not None:
        words.append(f"[{write_offer(letter.offer)}]")
    if letter.stay is not None:
        words.append(f"stay {letter.stay}")
    if letter.goal is not None:
        words.append(f"goal {letter.goal}")
    return " ".join(words)


def short(sent):
    return [tell(place, text) for place, text in sent]


class Far:
    """The far end of a leg of the exchange, at a place; `call` is the CALL between them."""

    def __init__(self, place, own, tag, other, call):
        self.place, self.own, self.tag, self.other, self.call = place, own, tag, other, call
        self.other_tag = call.origin_tag if call.origin == other else ""
        self.seq = call.seq if call.origin == own else 0
        self.asked = {}

    def ask(self, verb, **more):
        """Return the text of the next request of this end."""
        self.seq += 1
        parts = {"verb": verb, "call": self.call.call, "origin": self.own, "origin_tag": self.tag,
                 "target": self.other, "target_tag": self.other_tag, "seq": self.seq, "way": f"{self.tag}w{self.seq}"}
        parts.update(more)
        self.asked[verb] = Letter(**parts)
        return write(self.asked[verb])

    def keep(self):
        """Return the KEEP of the reply to this end's CALL."""
        call = self.call
        return write(Letter(verb="KEEP", call=call.call, origin=call.origin, origin_tag=call.origin_tag,
                            target=call.target, target_tag=self.other_tag, seq=call.seq, way=call.way))

    def answer(self, code, offer=None, request=None):
        """Return the reply of this end to a request of the exchange, without one to its CALL."""
        return write((request or self.call).reply(code, self.tag, offer))


class ExchangeCase(unittest.TestCase):
    """An exchange with the host x, the users ann, bob, cat and dan and the stations p, q, r, s and t."""

    def make(self, **more):
        return self.use(start(make_config(**more)), 0)

    def use(self, exchange, now):
        self.exchange, self.now = exchange, now
        self.seqs, self.requests, self.replies, self.told, self.sent = {}, {}, {}, 0, []
        return exchange

    def note(self, sent):
        """Remember what goes out, for its replies and KEEPs; return what is sent in short."""
        self.assertIs(type(sent), list)
        for place, text in sent:
            letter = read(text)
            if letter.code is not None:
                self.replies[place, letter.verb] = letter
                continue
            self.requests[place, letter.verb] = letter
            if letter.verb != "KEEP":
                self.assertRegex(letter.way, rf"\A{letter.origin_tag}w[1-9][0-9]*\Z")
        self.sent = short(sent)
        return self.sent

    def put(self, text, place):
        return self.note(self.exchange.receive(text, place, self.now))

    def tick(self):
        """Let the present tick pass and go on to the next one."""
        sent = self.note(self.exchange.tick(self.now))
        self.now += 1
        return sent

    def ticks(self, many):
        """Let ticks pass. Return each tick in which something is sent, with what is sent."""
        found = []
        for _ in range(many):
            if sent := self.tick():
                found.append((self.now - 1, sent))
        return found

    def until(self, now):
        """Let ticks pass until this one is the present one."""
        return self.ticks(now - self.now)

    def news(self):
        """Return the events since the last such call."""
        told, self.told = self.told, len(self.exchange.events)
        return self.exchange.events[told:]

    def check(self, sent, events=()):
        """Check what was sent last, and the events since the last check."""
        self.assertEqual(self.sent, sent)
        self.assertEqual(self.news(), list(events))

    def next_seq(self, place):
        self.seqs[place] = self.seqs.get(place, 0) + 1
        return self.seqs[place]

    def sign(self, user, *places, stay=500):
        for place in places:
            seq = self.next_seq(place)
            self.put(self.sign_text(user, seq, stay=stay), place)
            self.assertEqual(self.sent[0].split()[1], "20")

    def sign_text(self, user, seq, **more):
        parts = {"verb": "SIGN", "call": f"s{seq}", "origin": f"{user}@x", "origin_tag": "s", "target": f"{user}@x",
                 "target_tag": "", "seq": seq, "way": f"s{seq}", "stay": 9}
        parts.update(more)
        return write(Letter(**parts))

    def call_letter(self, place, user, **more):
        """A CALL of ann at a place to a user; each one has a call and a tag of its own."""
        seq = self.next_seq(place)
        parts = {"verb": "CALL", "call": f"c{place}{seq}", "origin": "ann@x", "origin_tag": f"{place}{seq}",
                 "target": f"{user}@x", "target_tag": "", "seq": seq, "way": f"{place}{seq}w1", "offer": ABLE}
        parts.update(more)
        return Letter(**parts)

    def dial(self, place, user, **more):
        """Let a CALL arrive from a place. Return the far end that sent it."""
        letter = self.call_letter(place, user, **more)
        far = Far(place, letter.origin, letter.origin_tag, letter.target, letter)
        self.put(write(letter), place)
        return far

    def far(self, place, tag="z1"):
        """Return the far end of the leg that called a place last."""
        call = self.requests[place, "CALL"]
        return Far(place, call.target, tag, call.origin, call)

    def ring(self, far):
        return self.put(far.answer(18), far.place)

    def accept(self, far, offer=THEIRS):
        return self.put(far.answer(20, offer), far.place)

    def refuse(self, far, code=44):
        return self.put(far.answer(code), far.place)

    def ask(self, far, verb, **more):
        """Let the next request of a far end arrive."""
        return self.put(far.ask(verb, **more), far.place)

    def reply(self, far, verb, code, offer=None):
        """Let a far end reply to the latest request with this verb."""
        return self.put(far.answer(code, offer, self.requests[far.place, verb]), far.place)

    def talking(self, *places, **more):
        """Let ann at p talk to bob at q, who is also at these places. Return the two far ends."""
        self.sign("bob", "q", *places)
        ann = self.dial("p", "bob", **more)
        bob = self.far("q")
        self.accept(bob)
        self.learn(ann)
        self.put(ann.keep(), "p")
        self.news()
        return ann, bob

    def learn(self, far):
        """Let a far end that called know the tag in the latest reply to its CALL."""
        far.other_tag = self.replies[far.place, "CALL"].target_tag

    def bills(self):
        return self.exchange.ledger.bills()
