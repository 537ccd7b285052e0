"""Points 7.3 to 7.5: the requests and replies that a leg takes, and what it gives up."""

from legs_help import ABLE, AGAIN, ANSWER, FINALS, LIMIT, OFFER, STRANGE, LegCase, short

NAMES = ["calling", "ringing", "offered", "caller", "callee", "over"]
TALKING = ["caller", "callee"]
VERBS = ["CALL", "STOP", "END", "TURN", "MOVE", "LIVE", "SIGN"]
# The replies of point 7.3, by verb and state, for requests with a goal and an offer that is answered.
REPLIES = {
    "END": {"calling": 20, "ringing": 20, "offered": 41, "caller": 20, "callee": 20, "over": 41},
    "STOP": {"calling": 41, "ringing": 41, "offered": 20, "caller": 41, "callee": 20, "over": 41},
    "TURN": {"calling": 50, "ringing": 50, "offered": 41, "caller": 20, "callee": 20, "over": 41},
    "MOVE": {"calling": 50, "ringing": 50, "offered": 41, "caller": 20, "callee": 20, "over": 41},
    "LIVE": {"calling": 50, "ringing": 50, "offered": 41, "caller": 20, "callee": 20, "over": 41},
    "CALL": {"calling": 50, "ringing": 50, "offered": 50, "caller": 50, "callee": 50, "over": 50},
    "SIGN": {"calling": 50, "ringing": 50, "offered": 50, "caller": 50, "callee": 50, "over": 50},
}


class NewRequestTest(LegCase):
    def expected(self, verb, name):
        """Return the state and the events behind a request with a goal and an offer that is answered."""
        if verb == "END" and REPLIES[verb][name] == 20:
            return "over", [("over", "ended", 20)]
        if verb == "STOP" and name == "offered":
            return "over", [("over", "stopped", 45)]
        events = []
        if name in TALKING:
            events = {"TURN": [("turned", OFFER)], "MOVE": [("moved", "eve@x")]}.get(verb, [])
        return self.leg.state, events

    def test_each_verb_in_each_state(self):
        for verb in VERBS:
            for name, leg in self.states():
                state, events = self.expected(verb, name)
                found = self.take(verb, offer=OFFER, goal="eve@x")
                code = REPLIES[verb][name]
                answered = ANSWER if verb == "TURN" and code == 20 else None
                replies = [self.taken.reply(code, "t1", answered)]
                if verb == "STOP" and name == "offered":
                    replies = [self.call.reply(45, "t1")] + replies
                self.assertEqual(found, self.sending(*replies), (verb, name))
                self.check(state, events)

    def test_without_offer_and_goal(self):
        for verb in VERBS:
            for name, leg in self.states():
                state, events = self.expected(verb, name)
                refused = name in TALKING and verb in ("TURN", "MOVE")
                found = self.take(verb)
                self.assertEqual(found[-1:], self.sending(self.taken.reply(50 if refused else REPLIES[verb][name], "t1")))
                self.check(state, [] if refused else events)

    def test_turn_with_a_goal_and_move_with_an_offer(self):
        for name in TALKING:
            getattr(self, name)()
            self.assertEqual(short(self.take("TURN", goal="eve@x")), ["TURN 31 50"])
            self.assertEqual(short(self.take("MOVE", offer=OFFER)), ["MOVE 32 50"])
            self.check("talking", [])

    def test_turn_without_a_common_format(self):
        for name, leg in self.states():
            state, code = leg.state, REPLIES["TURN"][name]
            found = self.take("TURN", offer=STRANGE)
            self.assertEqual(found, self.sending(self.taken.reply(46 if code == 20 else code, "t1")))
            self.check(state, [])

    def test_answer_to_a_turn(self):
        leg = self.callee()
        for offer, answered in [((1, "both", ("b", "a")), (4000, "both", ("b", "a"))),
                                ((2, "none", ("a",)), (4000, "none", ("a",))), (OFFER, ANSWER)]:
            found = self.take("TURN", offer=offer)
            self.assertEqual(found, self.sending(self.taken.reply(20, "t1", answered)))
            self.check("talking", [("turned", offer)])
        self.assertEqual(leg.able, ABLE)

    def test_replies_go_to_the_place_of_the_request(self):
        self.callee()
        self.assertEqual([place for place, _ in self.take("LIVE", place="z")], ["z"])

    def test_end_stops_the_call(self):
        for make in [self.calling, self.ringing]:
            leg = make(first=1)
            self.take("END")
            self.assertEqual(self.ticks(31), [])
            self.assertIs(leg.is_done(), False)
            self.ticks(1)
            self.assertIs(leg.is_done(), True)

    def test_end_stops_nothing_else(self):
        leg = self.caller(first=1)
        leg.turn(OFFER, self.now)
        self.take("END")
        self.assertEqual(self.when(40, "TURN 2"), [100 + many for many in AGAIN])

    def test_end_comes_at_most_once(self):
        self.caller()
        self.assertEqual(short(self.take("END")), ["END 31 20"])
        self.assertEqual(short(self.take("END")), ["END 32 41"])
        self.check("over", [("over", "ended", 20)])

    def test_stop_of_an_answered_call_changes_nothing(self):
        self.callee()
        self.assertEqual(short(self.take("STOP")), ["STOP 31 20"])
        self.assertEqual(short(self.take("LIVE")), ["LIVE 32 20"])
        self.check("talking", [])

    def test_stop_when_it_rings_here(self):
        leg = self.offered()
        leg.ring(self.now)
        self.assertEqual(short(self.take("STOP")), ["CALL 30 45", "STOP 31 20"])
        self.check("over", [("over", "stopped", 45)])
        self.assertEqual(short(self.leg.receive(self.call, "q", self.now)), ["CALL 30 45"])


class SequenceTest(LegCase):
    def at(self, seq, verb="LIVE", way="new"):
        return short(self.leg.receive(self.letter(verb, seq, way=way), "q", self.now))

    def test_not_greater_than_that_of_the_call(self):
        for seq in [0, 29, 30]:
            self.callee()
            self.assertEqual(self.at(seq, "END"), [])
            self.check("talking", [])
        self.callee()
        self.assertEqual(self.at(31, "END"), ["END 31 20"])

    def test_not_greater_than_all_others(self):
        self.callee()
        self.assertEqual(self.at(40), ["LIVE 40 20"])
        for seq in [31, 39, 40]:
            self.assertEqual(self.at(seq, "END"), [])
        self.assertEqual(self.at(41), ["LIVE 41 20"])
        self.check("talking", [])

    def test_of_a_leg_that_called(self):
        self.caller(seq=77)
        self.assertEqual(self.at(0), ["LIVE 0 20"])
        self.assertEqual(self.at(0, "END"), [])
        self.assertEqual(self.at(1), ["LIVE 1 20"])

    def test_those_refused_were_taken(self):
        self.calling()
        self.assertEqual(self.at(9), ["LIVE 9 50"])
        self.assertEqual(self.at(9, "END"), [])
        self.check("calling", [])

    def test_keeps_do_not_count(self):
        self.callee()
        for seq in [30, 90]:
            self.assertEqual(self.at(seq, "KEEP"), [])
        self.assertEqual(self.at(31), ["LIVE 31 20"])
        self.check("talking", [])

    def test_forgotten_requests_are_not_new(self):
        self.callee(first=1)
        self.leg.receive(self.letter("KEEP", 30), "q", self.now)
        self.assertEqual(self.at(31, "MOVE", "w"), ["MOVE 31 50"])
        self.ticks(LIMIT - 1)
        self.assertEqual(self.at(31, "MOVE", "w"), ["MOVE 31 50"])
        self.ticks(1)
        self.assertEqual(self.at(31, "MOVE", "w"), [])
        self.assertEqual(self.leg.receive(self.call, "q", self.now), [])


class AgainTest(LegCase):
    def test_same_request_once_more(self):
        for verb in VERBS:
            for name, leg in self.states():
                found = self.take(verb, offer=OFFER, goal="eve@x")[-1:]
                state, before = leg.state, leg.take_events()
                for _ in range(3):
                    self.assertEqual(leg.receive(self.taken, "q", self.now), found)
                    self.check(state, [])

    def test_reply_stays_though_the_state_changed(self):
        leg = self.callee()
        found = self.take("TURN", offer=OFFER)
        turn = self.taken
        self.take("END")
        self.assertEqual(leg.receive(turn, "q", self.now), found)
        self.check("over", [("turned", OFFER), ("over", "ended", 20)])

    def test_from_another_place(self):
        leg = self.callee()
        self.take("MOVE", goal="eve@x")
        self.assertEqual(leg.receive(self.taken, "z", self.now), [])
        self.check("talking", [("moved", "eve@x")])

    def test_call_once_more(self):
        leg = self.offered()
        self.assertEqual(leg.receive(self.call, "q", self.now), [])
        leg.ring(self.now)
        self.assertEqual(short(leg.receive(self.call, "q", self.now)), ["CALL 30 18"])
        leg.accept(ANSWER, self.now)
        self.assertEqual(leg.receive(self.call, "q", self.now), self.sending(self.call.reply(20, "t1", ANSWER)))
        leg.receive(self.letter("KEEP", 30), "q", self.now)
        self.assertEqual(leg.receive(self.call, "q", self.now), [])
        self.check("talking", [("kept",)])


class KeepTest(LegCase):
    def keep(self, seq, **more):
        return self.leg.receive(self.letter("KEEP", seq, **more), more.get("place", "q"), self.now)

    def test_first_one(self):
        leg = self.callee(first=1)
        self.assertEqual(self.keep(30), [])
        self.check("talking", [("kept",)])
        self.assertEqual(self.keep(30), [])
        self.check("talking", [])
        self.assertEqual(self.ticks(31), [])

    def test_if_the_leg_does_not_talk(self):
        leg = self.offered()
        self.assertEqual(self.keep(30), [])
        self.check("offered", [])
        leg.accept(ABLE, self.now)
        leg.take_events()
        self.keep(30)
        self.check("talking", [("kept",)])
        for end in [lambda leg: leg.refuse(44, self.now), lambda leg: self.take("STOP")]:
            leg = self.offered(first=1)
            end(leg)
            leg.take_events()
            self.assertEqual(self.keep(30), [])
            self.check("over", [])
            self.assertEqual(self.when(31, "CALL 30 44") + self.when(31, "CALL 30 45"), [])

    def test_of_another_call(self):
        for name in TALKING:
            getattr(self, name)(first=1)
            self.take("CALL")
            self.assertEqual(self.keep(31), [])
            self.check("talking", [("kept",)])
            self.assertEqual(self.keep(31), [])
            self.check("talking", [])
            self.assertEqual(self.when(31, "CALL 31 50"), [])

    def test_that_belongs_to_no_call(self):
        for name, leg in self.states():
            state = leg.state
            for seq, more in [(29, {}), (31, {}), (30, {"way": "w"}), (30, {"origin_tag": "r2"}), (30, {"call": "c2"})]:
                self.assertEqual(self.keep(seq, **more), [])
                self.check(state, [])
            self.assertEqual(leg.receive(self.letter("KEEP", 30), "z", self.now), [])
            self.check(state, [])
        self.callee()
        self.take("LIVE")
        self.assertEqual(self.keep(31), [])
        self.check("talking", [])


class ServersTest(LegCase):
    def test_at_most_sixteen(self):
        self.caller(first=1)
        found = [short(self.take("LIVE")) for _ in range(18)]
        self.assertEqual(found, [[f"LIVE {seq} 20"] for seq in range(31, 47)] + [[], []])
        self.assertEqual(short(self.leg.receive(self.letter("LIVE", 46), "q", self.now)), ["LIVE 46 20"])
        self.ticks(LIMIT - 1)
        self.assertEqual(self.leg.receive(self.letter("LIVE", 47), "q", self.now), [])
        self.ticks(1)
        # A request that was ignored was not taken, so its number is still new.
        self.assertEqual(short(self.leg.receive(self.letter("LIVE", 47), "q", self.now)), ["LIVE 47 20"])

    def test_that_of_the_call_counts(self):
        self.callee(first=1)
        found = [short(self.take("LIVE")) for _ in range(16)]
        self.assertEqual(found, [[f"LIVE {seq} 20"] for seq in range(31, 46)] + [[]])
        self.seq = 45
        self.assertEqual(self.take("END"), [])
        self.check("talking", [])

    def test_each_one_that_is_over_gives_room(self):
        self.caller(first=1)
        for _ in range(16):
            self.take("LIVE")
            self.ticks(1)
        self.assertEqual(self.take("END"), [])
        self.ticks(15)
        self.assertEqual(self.take("END"), [])
        self.ticks(1)
        self.assertEqual(short(self.take("LIVE")), ["LIVE 49 20"])
        self.assertEqual(self.take("END"), [])
        self.check("talking", [])


class ReplyTest(LegCase):
    def test_that_belongs_to_no_request(self):
        for name, leg in self.states():
            state = leg.state
            for verb, number in [("CALL", 9), ("LIVE", 1), ("KEEP", 1), ("CALL", 0), ("SIGN", 1)]:
                self.assertEqual(self.reply(verb, number, 20), [])
            self.check(state, [])

    def test_way_and_verb_tell_the_request(self):
        leg = self.calling()
        other = self.letter("CALL", 77, call="c7", origin="e@e", origin_tag="e1", way="t1w1")
        self.assertEqual(leg.receive(other.reply(20, "r7", OFFER), "z", self.now),
                         self.sending(self.request("KEEP", 1, target_tag="r7")))
        self.check("talking", [("answered", OFFER)])
        self.assertEqual(leg.other_tag, "r7")

    def test_18_to_a_call(self):
        leg = self.calling(first=1)
        self.assertEqual(self.reply("CALL", 1, 18), [])
        self.check("ringing", [("rang",)])
        self.assertEqual(leg.other_tag, "")
        self.assertEqual(self.reply("CALL", 1, 18), [])
        self.assertEqual(self.ticks(5000), [])
        self.check("ringing", [])

    def test_20_to_a_call(self):
        for make in [self.calling, self.ringing]:
            for offer in [None, ABLE]:
                leg = make()
                self.assertEqual(self.reply("CALL", 1, 20, "r5", offer),
                                 self.sending(self.request("KEEP", 1, target_tag="r5")))
                self.check("talking", [("answered", offer)])
                self.assertEqual(leg.other_tag, "r5")
                self.assertEqual(leg.turn(OFFER, self.now),
                                 self.sending(self.request("TURN", 2, target_tag="r5", offer=OFFER)))

    def test_other_codes_to_a_call(self):
        for make in [self.calling, self.ringing]:
            for code in FINALS[1:]:
                leg = make()
                self.assertEqual(self.reply("CALL", 1, code, "r5"),
                                 self.sending(self.request("KEEP", 1, target_tag="r5")))
                self.check("over", [("over", "failed", code)])
                self.assertEqual(leg.other_tag, "")

    def test_once_more_to_a_call(self):
        for first in FINALS:
            self.calling()
            self.reply("CALL", 1, first)
            state = self.leg.state
            self.leg.take_events()
            for code in FINALS:
                self.assertEqual(self.reply("CALL", 1, code, "r6"), self.sending(self.request("KEEP", 1)))
            self.assertEqual(self.reply("CALL", 1, 18), [])
            self.check(state, [])

    def test_to_a_call_that_was_hung_up(self):
        for make in [self.calling, self.ringing]:
            for code in [18] + FINALS:
                leg = make()
                leg.hang_up(self.now)
                leg.take_events()
                expected = [] if code == 18 else [self.request("KEEP", 1)]
                if code == 20:
                    expected.append(self.request("END", 3))
                self.assertEqual(self.reply("CALL", 1, code), self.sending(*expected))
                self.assertEqual(leg.other_tag, "r1" if code == 20 else "")
                self.check("over", [])
                if code != 18:
                    self.assertEqual(self.reply("CALL", 1, 20), self.sending(self.request("KEEP", 1)))
                    self.check("over", [])

    def test_to_a_call_that_was_ended(self):
        self.ringing()
        self.take("END")
        self.assertEqual(self.reply("CALL", 1, 20), self.sending(self.request("KEEP", 1), self.request("END", 2)))
        self.check("over", [("over", "ended", 20)])

    def test_to_a_call_that_was_given_up(self):
        self.calling(first=1)
        self.ticks(LIMIT)
        self.assertEqual(self.reply("CALL", 1, 20), [])
        self.check("over", [("over", "failed", 48)])

    def test_to_turn_and_move(self):
        for name in TALKING:
            for code in FINALS:
                leg = getattr(self, name)()
                number = 2 if name == "caller" else 1
                leg.turn(OFFER, self.now)
                self.assertEqual(self.reply("TURN", number, 18), [])
                self.assertEqual(self.reply("TURN", number, code, offer=ABLE), [])
                if code == 41:
                    self.check("over", [("over", "lost", 41)])
                    self.assertEqual([place for place, found in self.ticks(70) if "END" in str(found)], [])
                    continue
                self.check("talking", [("turn replied", code, ABLE)])
                self.assertEqual(self.reply("TURN", number, code, offer=ABLE), [])
                leg.move("eve@x", self.now)
                self.assertEqual(self.reply("MOVE", number + 1, code, offer=ABLE), [])
                self.check("talking", [("move replied", code)])

    def test_turn_without_an_offer_in_its_reply(self):
        leg = self.caller()
        leg.turn(OFFER, self.now)
        self.reply("TURN", 2, 46)
        self.check("talking", [("turn replied", 46, None)])

    def test_41_to_each_of_them(self):
        for verb in ["TURN", "MOVE", "LIVE"]:
            leg = self.caller(check=3)
            if verb == "TURN":
                leg.turn(OFFER, self.now)
            elif verb == "MOVE":
                leg.move("eve@x", self.now)
            self.ticks(3)
            self.assertEqual(self.reply(verb, 2, 41), [])
            self.check("over", [("over", "lost", 41)])

    def test_when_it_is_over(self):
        for code in FINALS:
            leg = self.caller()
            leg.turn(OFFER, self.now)
            leg.hang_up(self.now)
            leg.take_events()
            self.assertEqual([self.reply("TURN", 2, code), self.reply("END", 3, code)], [[], []])
            self.check("over", [])

    def test_to_end_and_stop(self):
        for code in FINALS:
            for make, verb in [(self.caller, "END"), (self.ringing, "STOP")]:
                leg = make()
                leg.hang_up(self.now)
                leg.take_events()
                self.assertEqual(self.reply(verb, 2, code), [])
                self.check("over", [])
                self.assertEqual(self.when(31, verb + " 2"), [])


class LiveTest(LegCase):
    def test_after_check_ticks(self):
        for check in [1, 2, 50, 1000]:
            for name in TALKING:
                getattr(self, name)(first=20, check=check)
                number = 2 if name == "caller" else 1
                if name == "callee":
                    self.leg.receive(self.letter("KEEP", 30), "q", self.now)
                self.assertEqual(self.ticks(check - 1), [])
                self.assertEqual(self.ticks(1), [(100 + check, [f"LIVE {number}"])])

    def test_parts(self):
        self.caller(check=1)
        self.now += 1
        self.assertEqual(self.leg.tick(self.now), self.sending(self.request("LIVE", 2)))

    def test_again_after_each_reply(self):
        for code in [20, 43, 44, 45, 46, 48, 50]:
            self.caller(first=1, check=10)
            self.ticks(12)
            self.reply("LIVE", 2, 18)
            self.reply("LIVE", 2, code)
            self.ticks(4)
            # A reply that comes once more is not another one.
            self.reply("LIVE", 2, code)
            self.assertEqual(self.ticks(6), [(122, ["LIVE 3"])])
            self.check("talking", [])

    def test_not_before_the_reply(self):
        self.caller(first=20, check=10)
        self.assertEqual(self.when(600, "LIVE 3"), [])

    def test_counts_from_the_answer(self):
        self.calling(first=1, check=10)
        self.ticks(3)
        self.reply("CALL", 1, 18)
        self.ticks(70)
        self.reply("CALL", 1, 20)
        self.assertEqual(self.ticks(10), [(183, ["LIVE 2"])])

    def test_waits_for_turn_and_move(self):
        leg = self.caller(first=20, check=10)
        leg.turn(OFFER, self.now)
        leg.move("eve@x", self.now)
        self.assertEqual(self.ticks(12), [])
        self.assertEqual(short(self.reply("TURN", 2, 20)), ["MOVE 3"])
        self.assertEqual(self.ticks(5), [])
        self.assertEqual(self.reply("MOVE", 3, 20), [])
        self.assertEqual(self.ticks(1), [(118, ["LIVE 4"])])

    def test_turn_that_was_replied_to_before(self):
        leg = self.caller(first=20, check=10)
        leg.turn(OFFER, self.now)
        self.ticks(9)
        self.reply("TURN", 2, 20)
        self.assertEqual(self.ticks(1), [(110, ["LIVE 3"])])
        leg.turn(OFFER, self.now)
        self.assertEqual(short(self.reply("LIVE", 3, 20)), ["TURN 4"])
        self.ticks(3)
        self.reply("TURN", 4, 20)
        self.assertEqual(self.ticks(7), [(120, ["LIVE 5"])])

    def test_none_when_over(self):
        for end in [lambda leg: leg.hang_up(self.now), lambda leg: self.take("END")]:
            leg = self.caller(check=40)
            end(leg)
            self.assertNotIn("LIVE", str(self.ticks(200)))


class GivenUpTest(LegCase):
    def lost(self, at, number):
        """Check that the call is lost in this tick, and END sent at once."""
        self.assertEqual(self.when(at - self.now - 1, f"END {number}"), [])
        self.check("talking", [])
        self.now += 1
        self.assertEqual(self.leg.tick(self.now), self.sending(self.request("END", number)))
        self.check("over", [("over", "lost", 48)])
        self.assertEqual(self.when(1000, f"END {number + 1}"), [])
        self.assertIs(self.leg.is_done(), True)

    def test_live(self):
        for first in [1, 20]:
            self.caller(first=first, check=10)
            self.lost(110 + LIMIT * first, 3)

    def test_turn_and_move(self):
        for first in [1, 20]:
            for deed in [lambda: self.leg.turn(OFFER, self.now), lambda: self.leg.move("eve@x", self.now)]:
                self.caller(first=first, check=10)
                deed()
                deed()
                self.lost(100 + LIMIT * first, 3)

    def test_reply_20_to_the_call(self):
        for first in [1, 20]:
            self.callee(first=first, check=1000)
            self.lost(100 + LIMIT * first, 1)

    def test_not_when_over(self):
        for name in TALKING:
            leg = getattr(self, name)(first=1)
            leg.turn(OFFER, self.now)
            self.ticks(3)
            leg.hang_up(self.now)
            self.check("over", [("over", "hung", 20)])
            self.assertNotIn("END 4", str(self.ticks(100)))
            self.check("over", [])
            self.assertIs(leg.is_done(), True)

    def test_other_replies_to_a_call(self):
        for name in TALKING:
            getattr(self, name)(first=1, check=1000)
            if name == "callee":
                self.leg.receive(self.letter("KEEP", 30), "q", self.now)
                self.leg.take_events()
            self.take("CALL")
            self.assertEqual(len(self.ticks(100)), 6)
            self.check("talking", [])

    def test_end_and_stop(self):
        for make in [self.caller, self.ringing]:
            leg = make(first=1)
            leg.hang_up(self.now)
            leg.take_events()
            self.ticks(100)
            self.check("over", [])
            self.assertIs(leg.is_done(), True)

    def test_reply_to_a_call_that_was_refused(self):
        leg = self.offered(first=1)
        leg.refuse(46, self.now)
        self.assertEqual(self.ticks(60), [(100 + many, ["CALL 30 46"]) for many in AGAIN])
        self.check("over", [("over", "refused", 46)])
        self.assertIs(leg.is_done(), True)
