"""Points 0.4 and 5.1 to 5.5: sending requests."""

import random
import unittest

from trunkland.clients import Client
from trunkland.letters import Letter, read, write

OTHERS = ["STOP", "END", "TURN", "MOVE", "LIVE", "SIGN"]
FINALS = [20, 41, 43, 44, 45, 46, 48, 50]
# After these many first gaps a letter is sent again: gaps of 1, 2, 4, 8, 8 and 8.
AGAIN = [1, 3, 7, 15, 23, 31]
LIMIT = 32


def make_request(verb):
    return Letter(verb=verb, call="c1", origin="ann@p", origin_tag="t1", target="bob@x", target_tag="", seq=7,
                  way="t1w3", offer=(1, "both", ("a", "b")), stay=5, goal="eve@y")


def keep_text(tag):
    return f"request KEEP\ncall c1\nfrom ann@p t1\nto bob@x {tag}\nseq 7\nway t1w3\n"


class ClientCase(unittest.TestCase):
    def begin(self, verb, first=2, now=0):
        self.request = make_request(verb)
        self.text = write(self.request)
        self.now = now
        self.client = Client(self.request, "q", now, first)
        return self.client

    def ticks(self, many):
        """Let ticks pass. Return the ticks in which the request was sent and in which it was given up."""
        sent_at, given_up_at = [], []
        for _ in range(many):
            self.now += 1
            sent, given_up = self.client.tick(self.now)
            if sent:
                self.assertEqual(sent, [("q", self.text)])
                sent_at.append(self.now)
            if given_up:
                given_up_at.append(self.now)
            self.assertIs(type(given_up), bool)
        return sent_at, given_up_at

    def take(self, code, tag="t2"):
        return self.client.take(self.request.reply(code, tag), self.now)


class FieldsTest(ClientCase):
    def test_fields(self):
        client = self.begin("CALL")
        self.assertEqual([client.letter.parts(), client.place, client.state], [self.request.parts(), "q", "calling"])
        self.assertIs(client.is_over(), False)

    def test_sending_in_every_state(self):
        expected = [("q", self.begin("CALL").sending()[0][1])]
        self.assertEqual(expected, [("q", self.text)])
        states = []
        for deed in [None, lambda: self.take(18), lambda: self.client.stop(self.now), lambda: self.take(20),
                     lambda: self.ticks(100)]:
            if deed:
                deed()
            states.append(self.client.state)
            self.assertEqual(self.client.sending(), expected)
        self.assertEqual(states, ["calling", "waiting", "stopping", "final", "over"])

    def test_results_are_not_shared(self):
        client = self.begin("CALL")
        client.sending().append("x")
        self.assertEqual(client.sending(), [("q", self.text)])
        self.take(20)[0].append("x")
        sent, _ = self.take(20)
        self.assertEqual(sent, [("q", keep_text("t2"))])
        sent.append("y")
        self.assertEqual(self.take(20), ([("q", keep_text("t2"))], None))


class CallingTest(ClientCase):
    def test_sent_again_and_given_up(self):
        for first in range(1, 21):
            for verb in ["CALL"] + OTHERS:
                for began in [0, 1, 1000]:
                    self.begin(verb, first, began)
                    sent_at, given_up_at = self.ticks(60 * first)
                    self.assertEqual(sent_at, [began + many * first for many in AGAIN])
                    self.assertEqual(given_up_at, [began + LIMIT * first])
                    self.assertEqual(self.client.state, "over")

    def test_tick_of_the_beginning(self):
        client = self.begin("LIVE", 1, 5)
        self.assertEqual(client.tick(5), ([], False))
        self.assertEqual(self.ticks(40), ([6, 8, 12, 20, 28, 36], [37]))

    def test_state_at_the_limit(self):
        self.begin("END", 3)
        self.ticks(95)
        self.assertEqual([self.client.state, self.client.is_over()], ["calling", False])
        self.ticks(1)
        self.assertEqual([self.client.state, self.client.is_over()], ["over", True])

    def test_over_does_nothing(self):
        for verb in ["CALL", "END"]:
            client = self.begin(verb, 1)
            self.ticks(32)
            for code in [18] + FINALS:
                self.assertEqual(self.take(code), ([], None))
            client.stop(self.now)
            self.assertEqual(self.ticks(100), ([], []))
            self.assertEqual(client.state, "over")


class ReplyTest(ClientCase):
    def test_provisional_reply_to_a_call(self):
        client = self.begin("CALL", 1)
        self.assertEqual(self.ticks(2), ([1], []))
        self.assertEqual(self.take(18), ([], 18))
        self.assertEqual(client.state, "waiting")
        self.assertEqual(self.ticks(500), ([], []))
        self.assertEqual(self.take(18), ([], 18))
        self.assertEqual(client.state, "waiting")

    def test_provisional_reply_to_another_request(self):
        for verb in OTHERS:
            client = self.begin(verb, 1)
            self.assertEqual(self.take(18), ([], None))
            self.assertEqual(client.state, "calling")
            self.assertEqual(self.ticks(40), ([1, 3, 7, 15, 23, 31], [32]))

    def test_final_reply_to_another_request(self):
        for verb in OTHERS:
            for code in FINALS:
                client = self.begin(verb, 1)
                self.ticks(2)
                self.assertEqual(self.take(code), ([], code))
                self.assertEqual([client.state, client.is_over()], ["over", True])
                self.assertEqual(self.take(code), ([], None))
                self.assertEqual(self.ticks(100), ([], []))

    def test_final_reply_to_a_call(self):
        for before in [[], [18], [18, 18]]:
            for code in FINALS:
                client = self.begin("CALL", 2)
                for provisional in before:
                    self.take(provisional)
                self.assertEqual(self.take(code, "t8"), ([("q", keep_text("t8"))], code))
                self.assertEqual([client.state, client.is_over()], ["final", False])

    def test_parts_of_the_keep(self):
        self.begin("CALL")
        (place, text), = self.take(44, "t8")[0]
        self.assertEqual(place, "q")
        self.assertEqual(read(text).parts(),
                         ("KEEP", None, "c1", "ann@p", "t1", "bob@x", "t8", 7, "t1w3", None, None, None))

    def test_replies_behind_the_first_final_one(self):
        client = self.begin("CALL", 2)
        self.take(20, "t8")
        for code in FINALS:
            self.ticks(1)
            self.assertEqual(self.take(code, "t9"), ([("q", keep_text("t8"))], None))
        self.assertEqual(self.take(18), ([], None))
        self.assertEqual(client.state, "final")

    def test_over_after_the_first_final_reply(self):
        for first in [1, 2, 20]:
            client = self.begin("CALL", first)
            self.ticks(5 * first)
            self.take(44)
            self.ticks(LIMIT * first - 1)
            self.take(44)
            self.assertEqual(client.state, "final")
            self.assertEqual(self.ticks(1), ([], []))
            self.assertEqual(client.state, "over")
            self.assertEqual(self.take(44), ([], None))


class StopTest(ClientCase):
    def test_stopped(self):
        for first in [1, 2, 20]:
            for verb in ["CALL"] + OTHERS:
                for rung in [False, True]:
                    client = self.begin(verb, first)
                    self.ticks(5)
                    if rung:
                        self.take(18)
                    client.stop(self.now)
                    self.assertEqual(client.state, "stopping")
                    self.assertEqual(self.ticks(60 * first), ([], [5 + LIMIT * first]))
                    self.assertTrue(client.is_over())

    def test_stopped_twice(self):
        client = self.begin("CALL", 1)
        client.stop(0)
        self.ticks(10)
        client.stop(self.now)
        self.assertEqual(self.ticks(40), ([], [32]))

    def test_replies_are_taken_as_before(self):
        client = self.begin("CALL", 1)
        client.stop(0)
        self.assertEqual(self.take(18), ([], 18))
        self.assertEqual(client.state, "stopping")
        self.ticks(20)
        self.assertEqual(self.take(45), ([("q", keep_text("t2"))], 45))
        self.assertEqual(client.state, "final")
        self.assertEqual(self.ticks(31), ([], []))
        self.assertEqual(client.state, "final")
        self.assertEqual(self.ticks(1), ([], []))
        self.assertEqual(client.state, "over")
        client = self.begin("TURN", 1)
        client.stop(0)
        self.assertEqual(self.take(18), ([], None))
        self.assertEqual(self.take(41), ([], 41))
        self.assertEqual(client.state, "over")

    def test_no_effect_in_final(self):
        client = self.begin("CALL", 1)
        self.take(20)
        self.ticks(20)
        client.stop(self.now)
        self.assertEqual(client.state, "final")
        self.ticks(12)
        self.assertEqual(client.state, "over")


class Told:
    """What a client does, told once more from the ticks at which something happened."""

    def __init__(self, verb, first, began):
        self.is_call, self.first, self.began = verb == "CALL", first, began
        self.rung = self.stopped = self.final = self.over = self.tag = None

    def state(self):
        if self.over is not None:
            return "over"
        if self.final is not None:
            return "final"
        if self.stopped is not None:
            return "stopping"
        return "calling" if self.rung is None else "waiting"

    def take(self, code, tag, now):
        if self.over is not None or (code == 18 and (self.final is not None or not self.is_call)):
            return ([], None)
        if code == 18:
            self.rung = now
            return ([], 18)
        if not self.is_call:
            self.over = now
            return ([], code)
        if self.final is not None:
            return ([("q", keep_text(self.tag))], None)
        self.final, self.tag = now, tag
        return ([("q", keep_text(tag))], code)

    def tick(self, text, now):
        state = self.state()
        since = {"calling": self.began, "stopping": self.stopped, "final": self.final}.get(state)
        if since is not None and now - since == LIMIT * self.first:
            self.over = now
            return ([], state != "final")
        again = [self.began + many * self.first for many in AGAIN]
        return ([("q", text)] if state == "calling" and now in again else [], False)


class AnyDeedsTest(ClientCase):
    def test_any_deeds(self):
        chance = random.Random(7)
        for _ in range(1500):
            verb = chance.choice(["CALL", "CALL", "CALL"] + OTHERS)
            first = chance.randint(1, 20)
            client = self.begin(verb, first, chance.choice([0, 3, 500]))
            told = Told(verb, first, self.now)
            for _ in range(chance.randint(1, 12)):
                deed = chance.choice(["take", "take", "stop", "tick", "tick", "tick"])
                if deed == "take":
                    code, tag = chance.choice([18, 18, chance.choice(FINALS)]), chance.choice(["t2", "t3", "t4"])
                    self.assertEqual(self.take(code, tag), told.take(code, tag, self.now))
                elif deed == "stop":
                    client.stop(self.now)
                    if told.state() in ("calling", "waiting"):
                        told.stopped = self.now
                else:
                    for _ in range(chance.choice([1, 1, first, 9 * first, chance.randint(1, 40 * first)])):
                        self.now += 1
                        self.assertEqual(client.tick(self.now), told.tick(self.text, self.now))
                        self.assertEqual(client.state, told.state())
                self.assertEqual(client.state, told.state())
                self.assertEqual(client.is_over(), told.state() == "over")
                self.assertEqual(client.sending(), [("q", self.text)])
