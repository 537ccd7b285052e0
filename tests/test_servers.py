"""Points 0.4 and 6.1 to 6.5: replying to requests."""

import random
import unittest

from trunkland.letters import Letter, write
from trunkland.servers import Server

OTHERS = ["STOP", "END", "TURN", "MOVE", "LIVE", "SIGN"]
FINALS = [20, 41, 43, 44, 45, 46, 48, 50]
# After these many first gaps a letter is sent again: gaps of 1, 2, 4, 8, 8 and 8.
AGAIN = [1, 3, 7, 15, 23, 31]
LIMIT = 32


def make_letter(verb, **more):
    parts = {"verb": verb, "call": "c1", "origin": "ann@p", "origin_tag": "t1", "target": "bob@x", "target_tag": "",
             "seq": 7, "way": "t1w3"}
    parts.update(more)
    return Letter(**parts)


class ServerCase(unittest.TestCase):
    def begin(self, verb, first=2, now=0):
        self.request = make_letter(verb, offer=(1, "both", ("a",)))
        self.now = now
        self.server = Server(self.request, "p", first)
        return self.server

    def sending(self, code, tag="t2"):
        return [("p", write(self.request.reply(code, tag)))]

    def reply(self, code, tag="t2"):
        return self.server.reply(self.request.reply(code, tag), self.now)

    def ticks(self, many):
        """Let ticks pass. Return what is sent in each tick in which something is, and when a reply is given up."""
        found, given_up_at = [], []
        for _ in range(many):
            self.now += 1
            sent, given_up = self.server.tick(self.now)
            if sent:
                found.append((self.now, sent))
            if given_up:
                given_up_at.append(self.now)
            self.assertIs(type(given_up), bool)
        return found, given_up_at


class MatchesTest(ServerCase):
    def test_same_request(self):
        for verb in ["CALL"] + OTHERS:
            server = self.begin(verb)
            self.assertIs(server.matches(make_letter(verb), "p"), True)
            self.assertIs(server.matches(self.request, "p"), True)

    def test_parts_that_count(self):
        for verb in ["CALL"] + OTHERS:
            server = self.begin(verb)
            for changed in [{"call": "c2"}, {"origin_tag": "t2"}, {"seq": 8}, {"seq": 6}, {"way": "t1w4"}]:
                self.assertIs(server.matches(make_letter(verb, **changed), "p"), False)
            for other in ["CALL"] + OTHERS:
                self.assertEqual(server.matches(make_letter(other), "p"), other == verb)

    def test_parts_that_do_not_count(self):
        for verb in ["CALL"] + OTHERS:
            server = self.begin(verb)
            for changed in [{"origin": "eve@y"}, {"target": "eve@y"}, {"target_tag": "t9"}, {"stay": 3},
                            {"goal": "eve@y"}, {"offer": (2, "send", ("b",))}]:
                self.assertIs(server.matches(make_letter(verb, **changed), "p"), True)

    def test_another_place(self):
        server = self.begin("CALL")
        for place in ["q", "pp", "x"]:
            self.assertIs(server.matches(make_letter("CALL"), place), False)
            self.assertIs(server.matches(make_letter("KEEP"), place), False)

    def test_replies(self):
        for verb in ["CALL"] + OTHERS:
            server = self.begin(verb)
            for code in [18] + FINALS:
                self.assertIs(server.matches(make_letter(verb, code=code), "p"), False)
                self.assertIs(server.matches(make_letter("KEEP", code=code), "p"), False)

    def test_keeps(self):
        server = self.begin("CALL")
        self.assertIs(server.matches(make_letter("KEEP"), "p"), True)
        self.assertIs(server.matches(make_letter("KEEP", target_tag="t2"), "p"), True)
        for changed in [{"call": "c2"}, {"origin_tag": "t2"}, {"seq": 8}, {"way": "t1w4"}]:
            self.assertIs(server.matches(make_letter("KEEP", **changed), "p"), False)
        for verb in OTHERS:
            self.assertIs(self.begin(verb).matches(make_letter("KEEP"), "p"), False)

    def test_in_every_state(self):
        server = self.begin("CALL", 1)
        states = []
        for deed in [None, lambda: self.reply(20), lambda: server.keep(self.now), lambda: self.ticks(40)]:
            if deed:
                deed()
            states.append(server.state)
            self.assertIs(server.matches(make_letter("CALL"), "p"), True)
            self.assertIs(server.matches(make_letter("KEEP"), "p"), True)
        self.assertEqual(states, ["open", "sent", "kept", "over"])


class ReplyTest(ServerCase):
    def test_fields(self):
        server = self.begin("CALL")
        self.assertEqual([server.letter.parts(), server.place, server.state], [self.request.parts(), "p", "open"])
        self.assertIs(server.is_over(), False)

    def test_open(self):
        for verb in ["CALL"] + OTHERS:
            server = self.begin(verb, 1)
            self.assertEqual(server.again(), [])
            self.assertEqual(self.ticks(100), ([], []))
            self.assertIs(server.keep(self.now), False)
            self.assertEqual([server.state, server.is_over()], ["open", False])

    def test_provisional(self):
        for verb in ["CALL"] + OTHERS:
            server = self.begin(verb, 1)
            self.assertEqual(self.reply(18), self.sending(18))
            self.assertEqual(server.state, "open")
            self.assertEqual(server.again(), self.sending(18))
            self.assertEqual(self.ticks(100), ([], []))
            self.assertEqual(self.reply(18, "t3"), self.sending(18, "t3"))
            self.assertEqual(server.again(), self.sending(18, "t3"))
            self.assertIs(server.keep(self.now), False)
            self.assertEqual(server.state, "open")

    def test_final(self):
        for verb in ["CALL"] + OTHERS:
            for code in FINALS:
                for rung in [False, True]:
                    server = self.begin(verb)
                    if rung:
                        self.reply(18)
                    self.assertEqual(self.reply(code), self.sending(code))
                    self.assertEqual([server.state, server.is_over()], ["sent", False])
                    self.assertEqual(server.again(), self.sending(code))

    def test_only_one_final(self):
        for verb in ["CALL"] + OTHERS:
            server = self.begin(verb, 1)
            self.reply(46)
            for code in [18] + FINALS:
                self.assertEqual(self.reply(code), [])
            self.assertEqual(server.again(), self.sending(46))
            self.ticks(100)
            self.assertEqual(server.state, "over")
            self.assertEqual([self.reply(20), server.again()], [[], []])

    def test_results_are_not_shared(self):
        server = self.begin("CALL", 1)
        self.reply(44).append("x")
        server.again().append("y")
        found, _ = self.ticks(1)
        self.assertEqual(found, [(1, self.sending(44))])
        found[0][1].append("z")
        self.assertEqual(server.again(), self.sending(44))


class FinalToCallTest(ServerCase):
    def test_sent_again_and_given_up(self):
        for first in range(1, 21):
            for code in FINALS:
                server = self.begin("CALL", first)
                self.ticks(7)
                self.reply(code)
                found, given_up_at = self.ticks(60 * first)
                self.assertEqual(found, [(7 + many * first, self.sending(code)) for many in AGAIN])
                self.assertEqual(given_up_at, [7 + LIMIT * first])
                self.assertEqual([server.state, server.is_over()], ["over", True])

    def test_again_does_not_change_the_gaps(self):
        server = self.begin("CALL", 2)
        self.reply(20)
        for _ in range(5):
            self.ticks(1)
            server.again()
        self.assertEqual([now for now, _ in self.ticks(60)[0]], [6, 14, 30, 46, 62])

    def test_kept(self):
        for first in [1, 2, 20]:
            for many in [0, 1, 6, LIMIT * first - 1]:
                server = self.begin("CALL", first)
                self.reply(20)
                self.ticks(many)
                self.assertIs(server.keep(self.now), True)
                self.assertEqual(server.state, "kept")
                self.assertEqual([server.again(), self.reply(20)], [[], []])
                self.assertEqual(self.ticks(LIMIT * first - 1), ([], []))
                self.assertIs(server.keep(self.now), False)
                self.assertEqual(server.state, "kept")
                self.assertEqual(self.ticks(1), ([], []))
                self.assertEqual(server.state, "over")

    def test_keep_when_over(self):
        server = self.begin("CALL", 1)
        self.reply(20)
        self.ticks(LIMIT)
        self.assertIs(server.keep(self.now), False)
        self.assertEqual([server.state, server.again(), self.ticks(50)], ["over", [], ([], [])])


class FinalToOthersTest(ServerCase):
    def test_remembered_until_the_limit(self):
        for verb in OTHERS:
            for first in [1, 2, 20]:
                server = self.begin(verb, first, 9)
                self.reply(20)
                self.assertEqual(self.ticks(LIMIT * first - 1), ([], []))
                self.assertEqual([server.state, server.again()], ["sent", self.sending(20)])
                self.assertEqual(self.ticks(1), ([], []))
                self.assertEqual([server.state, server.is_over(), server.again()], ["over", True, []])

    def test_a_keep_belongs_to_no_other_request(self):
        for verb in OTHERS:
            server = self.begin(verb, 1)
            self.reply(20)
            self.ticks(5)
            self.assertIs(server.keep(self.now), False)
            self.assertEqual([server.state, server.again()], ["sent", self.sending(20)])
            self.ticks(LIMIT - 5)
            self.assertEqual(server.state, "over")


class AnyDeedsTest(ServerCase):
    def expected_tick(self, is_call, first, state, since, latest):
        if state in ("sent", "kept") and self.now - since == LIMIT * first:
            return "over", ([], is_call and state == "sent")
        is_due = self.now - (since or 0) in [many * first for many in AGAIN]
        return state, (self.sending(*latest) if is_call and state == "sent" and is_due else [], False)

    def test_any_deeds(self):
        chance = random.Random(8)
        for _ in range(1500):
            verb = chance.choice(["CALL", "CALL", "CALL"] + OTHERS)
            first = chance.randint(1, 20)
            server = self.begin(verb, first, chance.choice([0, 3, 500]))
            state, since, latest = "open", None, None
            for _ in range(chance.randint(1, 12)):
                deed = chance.choice(["reply", "again", "keep", "tick", "tick", "tick"])
                if deed == "reply":
                    told = (chance.choice([18, 18, chance.choice(FINALS)]), chance.choice(["t2", "t3"]))
                    self.assertEqual(self.reply(*told), self.sending(*told) if state == "open" else [])
                    if state == "open":
                        latest = told
                        state, since = ("open", None) if told[0] == 18 else ("sent", self.now)
                elif deed == "again":
                    self.assertEqual(server.again(), self.sending(*latest)
                                     if latest and state in ("open", "sent") else [])
                elif deed == "keep":
                    is_first = state == "sent" and verb == "CALL"
                    self.assertIs(server.keep(self.now), is_first)
                    if is_first:
                        state, since = "kept", self.now
                else:
                    for _ in range(chance.choice([1, 1, first, 9 * first, chance.randint(1, 40 * first)])):
                        self.now += 1
                        state, found = self.expected_tick(verb == "CALL", first, state, since, latest)
                        self.assertEqual(server.tick(self.now), found)
                        self.assertEqual(server.state, state)
                self.assertEqual([server.state, server.is_over()], [state, state == "over"])
