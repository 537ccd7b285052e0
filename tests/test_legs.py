"""Points 7.1, 7.2, 7.6 and 7.7: what a leg does for its user, its requests, ticks and its end."""

from legs_help import ABLE, AGAIN, ANSWER, FINALS, LIMIT, OFFER, STRANGE, LegCase, short
from trunkland.legs import Leg


class FieldsTest(LegCase):
    def test_new(self):
        leg = Leg(tag="t9", call="c9", own="a@h", other="b@h", place="z", able=ABLE, first=7, check=9, seq=5)
        self.assertEqual([leg.tag, leg.call, leg.own, leg.other, leg.place, leg.able, leg.first, leg.check],
                         ["t9", "c9", "a@h", "b@h", "z", ABLE, 7, 9])
        self.assertEqual([leg.other_tag, leg.state, leg.take_events(), leg.is_done()], ["", "new", [], False])

    def test_arguments_by_name_only(self):
        with self.assertRaises(TypeError):
            Leg("t9", "c9", "a@h", "b@h", "z", ABLE, 7, 9)

    def test_nothing_is_possible_before_the_call(self):
        leg = self.make()
        for deed in [lambda: leg.ring(1), lambda: leg.accept(ABLE, 1), lambda: leg.refuse(44, 1),
                     lambda: leg.hang_up(1), lambda: leg.turn(ABLE, 1), lambda: leg.move("eve@x", 1),
                     lambda: leg.tick(1)]:
            self.assertEqual(deed(), [])
            self.check("new", [])

    def test_able_may_be_changed(self):
        leg = self.caller()
        leg.able = STRANGE
        self.assertEqual(short(self.take("TURN", offer=OFFER)), ["TURN 31 46"])
        leg.able = ABLE
        self.assertEqual(short(self.take("TURN", offer=OFFER)), ["TURN 32 20"])


class CallOutTest(LegCase):
    def test_call(self):
        leg = self.make(seq=41)
        self.assertEqual(leg.call_out(OFFER, 5),
                         [("q", "request CALL\ncall c1\nfrom ann@x t1\nto bob@x\nseq 42\nway t1w1\noffer 5000 send c,b\n")])
        self.check("calling", [])
        self.assertEqual(leg.other_tag, "")

    def test_first_sequence_number(self):
        leg = Leg(tag="t9", call="c9", own="a@h", other="b@h", place="z", able=ABLE, first=7, check=9)
        self.assertEqual(short(leg.call_out(OFFER, 5)), ["CALL 1"])
        self.assertEqual(short(self.make().call_out(OFFER, 5)), ["CALL 1"])
        self.assertEqual(short(self.make(seq=10000).call_out(OFFER, 5)), ["CALL 10001"])

    def test_sent_again(self):
        for first in [1, 2, 20]:
            self.calling(first=first)
            self.assertEqual(self.when(31 * first, "CALL 1"), [100 + many * first for many in AGAIN])

    def test_given_up(self):
        for first in [1, 2, 20]:
            leg = self.calling(first=first)
            self.ticks(LIMIT * first - 1)
            self.check("calling", [])
            self.assertEqual(self.ticks(1), [])
            self.check("over", [("over", "failed", 48)])
            self.assertIs(leg.is_done(), True)


class CallInTest(LegCase):
    def test_offered(self):
        leg = self.offered()
        self.assertEqual(leg.other_tag, "r1")
        self.check("offered", [])
        self.assertEqual(self.ticks(2000), [])
        self.check("offered", [])
        self.assertIs(leg.is_done(), False)

    def test_reply_goes_to_the_place_of_the_leg(self):
        leg = self.offered()
        self.assertEqual(leg.ring(self.now), self.sending(self.call.reply(18, "t1")))


class UserTest(LegCase):
    def test_ring(self):
        for name, leg in self.states():
            found = leg.ring(self.now)
            self.assertEqual(found, self.sending(self.call.reply(18, "t1")) if name == "offered" else [])
            self.assertEqual(leg.take_events(), [])
        leg = self.offered()
        leg.ring(self.now)
        self.assertEqual(leg.ring(self.now), self.sending(self.call.reply(18, "t1")))
        self.assertEqual(leg.state, "offered")

    def test_accept(self):
        for rings in [0, 1, 2]:
            leg = self.offered(first=2)
            for _ in range(rings):
                leg.ring(self.now)
            self.assertEqual(leg.accept(ANSWER, self.now), self.sending(self.call.reply(20, "t1", ANSWER)))
            self.check("talking", [])
            self.assertEqual(self.ticks(2), [(102, ["CALL 30 20"])])

    def test_refuse(self):
        for code in FINALS:
            leg = self.offered()
            self.assertEqual(leg.refuse(code, self.now), self.sending(self.call.reply(code, "t1")))
            self.check("over", [("over", "refused", code)])
            self.assertIs(leg.is_done(), False)

    def test_accept_and_refuse_in_other_states(self):
        for deed in [lambda leg: leg.accept(ABLE, self.now), lambda leg: leg.refuse(44, self.now)]:
            for name, leg in self.states():
                if name != "offered":
                    before = leg.state
                    self.assertEqual(deed(leg), [])
                    self.check(before, [])

    def test_hang_up_offered(self):
        for rings in [0, 1]:
            leg = self.offered()
            for _ in range(rings):
                leg.ring(self.now)
            self.assertEqual(leg.hang_up(self.now), self.sending(self.call.reply(44, "t1")))
            self.check("over", [("over", "refused", 44)])

    def test_hang_up_talking(self):
        leg = self.caller()
        self.assertEqual(leg.hang_up(self.now), self.sending(self.request("END", 2)))
        self.check("over", [("over", "hung", 20)])
        leg = self.callee()
        self.assertEqual(leg.hang_up(self.now), self.sending(self.request("END", 1)))
        self.check("over", [("over", "hung", 20)])

    def test_hang_up_before_the_answer(self):
        for make in [self.calling, self.ringing]:
            leg = make(first=1)
            self.assertEqual(leg.hang_up(self.now), self.sending(self.request("STOP", 2, target_tag="")))
            self.check("over", [("over", "hung", 45)])
            # The CALL is stopped, so the STOP alone is sent again.
            found = self.ticks(31)
            self.assertEqual(found, [(100 + many, ["STOP 2"]) for many in AGAIN])
            self.assertIs(leg.is_done(), False)
            self.assertEqual(self.ticks(1), [])
            self.check("over", [])
            self.assertIs(leg.is_done(), True)

    def test_hang_up_over(self):
        leg = self.over()
        self.assertEqual(leg.hang_up(self.now), [])
        self.check("over", [])

    def test_turn_and_move(self):
        leg = self.caller()
        self.assertEqual(leg.turn(STRANGE, self.now), self.sending(self.request("TURN", 2, offer=STRANGE)))
        leg = self.callee()
        self.assertEqual(leg.move("eve@x", self.now), self.sending(self.request("MOVE", 1, goal="eve@x")))
        self.check("talking", [])

    def test_turn_and_move_in_other_states(self):
        for name, leg in self.states():
            if name not in ("caller", "callee"):
                before = leg.state
                self.assertEqual(leg.turn(ABLE, self.now), [])
                self.assertEqual(leg.move("eve@x", self.now), [])
                self.check(before, [])
                self.assertNotIn("TURN", str(self.ticks(40)))


class RequestsTest(LegCase):
    def test_numbers_and_ways(self):
        leg = self.calling(seq=500)
        self.assertEqual(self.reply("CALL", 1, 20), self.sending(self.request("KEEP", 501, way="t1w1")))
        self.assertEqual(leg.turn(ABLE, self.now), self.sending(self.request("TURN", 502, way="t1w2", offer=ABLE)))
        self.reply("TURN", 2, 20)
        self.assertEqual(leg.move("eve@x", self.now),
                         self.sending(self.request("MOVE", 503, way="t1w3", goal="eve@x")))
        self.reply("MOVE", 3, 20)
        self.assertEqual(leg.hang_up(self.now), self.sending(self.request("END", 504, way="t1w4")))

    def test_one_at_a_time(self):
        leg = self.caller()
        self.assertEqual(short(leg.turn(OFFER, self.now)), ["TURN 2"])
        self.assertEqual(leg.move("eve@x", self.now), [])
        self.assertEqual(leg.turn(STRANGE, self.now), [])
        self.assertEqual(self.reply("TURN", 2, 18), [])
        self.assertEqual(self.reply("TURN", 2, 50), self.sending(self.request("MOVE", 3, goal="eve@x")))
        self.assertEqual(self.reply("TURN", 2, 50), [])
        self.assertEqual(self.reply("MOVE", 3, 20), self.sending(self.request("TURN", 4, offer=STRANGE)))
        self.assertEqual(self.reply("TURN", 4, 20), [])
        self.assertEqual(short(leg.move("eve@x", self.now)), ["MOVE 5"])

    def test_behind_a_live(self):
        leg = self.caller(check=5)
        self.assertEqual(self.ticks(5), [(105, ["LIVE 2"])])
        self.assertEqual(leg.move("eve@x", self.now), [])
        self.assertEqual(leg.turn(OFFER, self.now), [])
        self.assertEqual(short(self.reply("LIVE", 2, 20)), ["MOVE 3"])
        self.assertEqual(short(self.reply("MOVE", 3, 20)), ["TURN 4"])

    def test_at_most_eight_wait_behind_one_that_was_sent(self):
        leg = self.caller()
        sent = [leg.move(f"eve{number}@x", self.now) for number in range(12)]
        self.assertEqual(sent, [self.sending(self.request("MOVE", 2, goal="eve0@x"))] + [[]] * 11)
        for number in range(1, 9):
            self.assertEqual(self.reply("MOVE", number + 1, 20),
                             self.sending(self.request("MOVE", number + 2, goal=f"eve{number}@x")))
        self.assertEqual(self.reply("MOVE", 10, 20), [])

    def test_at_most_eight_wait_behind_a_live(self):
        leg = self.caller(check=5)
        self.ticks(5)
        self.assertEqual([leg.move(f"eve{number}@x", self.now) for number in range(12)], [[]] * 12)
        self.assertEqual(self.reply("LIVE", 2, 20), self.sending(self.request("MOVE", 3, goal="eve0@x")))
        for number in range(1, 8):
            self.assertEqual(self.reply("MOVE", number + 2, 20),
                             self.sending(self.request("MOVE", number + 3, goal=f"eve{number}@x")))
        self.assertEqual(self.reply("MOVE", 10, 20), [])

    def test_place_among_those_that_wait_is_free_again(self):
        leg = self.caller()
        for number in range(10):
            leg.move(f"eve{number}@x", self.now)
        self.reply("MOVE", 2, 20)
        self.assertEqual([leg.turn(OFFER, self.now), leg.turn(STRANGE, self.now)], [[], []])
        found = [self.reply("MOVE", number, 20) for number in range(3, 11)]
        self.assertEqual(found[-1], self.sending(self.request("TURN", 11, offer=OFFER)))
        self.assertEqual(self.reply("TURN", 11, 20), [])

    def test_forgotten_when_over(self):
        for end in [lambda leg: leg.hang_up(self.now), lambda leg: self.take("END"), lambda leg: self.ticks(64)]:
            leg = self.caller()
            leg.turn(OFFER, self.now)
            leg.turn(STRANGE, self.now)
            end(leg)
            self.assertEqual(leg.state, "over")
            self.assertEqual(self.reply("TURN", 2, 20), [])
            self.assertNotIn("TURN 3", str(self.ticks(70)))
            self.assertNotIn("TURN 4", str(self.ticks(70)))
        leg = self.caller()
        leg.turn(OFFER, self.now)
        leg.turn(STRANGE, self.now)
        self.assertEqual(self.reply("TURN", 2, 41), [])


class TickTest(LegCase):
    def test_clients_then_servers_then_live(self):
        leg = self.callee(first=1, check=1)
        self.assertEqual(self.ticks(1), [(101, ["CALL 30 20", "LIVE 1"])])
        leg = self.callee(first=1)
        leg.turn(OFFER, self.now)
        self.assertEqual(self.ticks(1), [(101, ["TURN 1", "CALL 30 20"])])

    def test_each_in_the_order_in_which_they_began(self):
        leg = self.callee(first=1)
        leg.turn(OFFER, self.now)
        self.take("CALL")
        leg.hang_up(self.now)
        self.take("CALL")
        self.assertEqual(self.ticks(1), [(101, ["TURN 1", "END 2", "CALL 30 20", "CALL 31 50", "CALL 32 50"])])

    def test_end_comes_at_once(self):
        leg = self.callee(first=1)
        leg.turn(OFFER, self.now)
        self.ticks(17)
        self.take("CALL")
        # The TURN and the reply 20 are given up in the same tick, and the call ends once.
        self.assertEqual(self.ticks(15)[-1], (132, ["END 2", "CALL 31 50"]))
        self.check("over", [("over", "lost", 48)])
        self.assertEqual(self.ticks(1), [(133, ["END 2"])])
        self.check("over", [])
        self.callee(first=1)
        self.ticks(17)
        self.take("CALL")
        self.assertEqual(self.ticks(15)[-1], (132, ["END 1", "CALL 31 50"]))

    def test_tick_of_the_beginning(self):
        leg = self.calling(first=1)
        self.assertEqual(leg.tick(100), [])
        self.assertEqual(self.ticks(1), [(101, ["CALL 1"])])


class DoneTest(LegCase):
    def test_not_done_before_the_end(self):
        for name, leg in self.states():
            self.assertIs(leg.is_done(), False)

    def test_waits_for_its_clients(self):
        leg = self.caller(first=1)
        self.ticks(33)
        leg.hang_up(self.now)
        self.assertIs(leg.is_done(), False)
        self.reply("END", 2, 20)
        self.assertIs(leg.is_done(), True)

    def test_waits_for_its_servers(self):
        leg = self.caller(first=1)
        self.ticks(33)
        self.take("END")
        self.ticks(LIMIT - 1)
        self.assertIs(leg.is_done(), False)
        self.ticks(1)
        self.assertIs(leg.is_done(), True)

    def test_waits_for_the_keep(self):
        leg = self.offered(first=1)
        leg.refuse(44, self.now)
        self.ticks(20)
        self.leg.receive(self.letter("KEEP", 30), "q", self.now)
        self.ticks(LIMIT - 1)
        self.assertIs(leg.is_done(), False)
        self.ticks(1)
        self.assertIs(leg.is_done(), True)
        self.check("over", [("over", "refused", 44)])

    def test_failed_call_waits_to_send_its_keep_again(self):
        leg = self.calling(first=1)
        self.reply("CALL", 1, 44)
        self.ticks(LIMIT - 1)
        self.assertEqual(self.reply("CALL", 1, 44), self.sending(self.request("KEEP", 1)))
        self.assertIs(leg.is_done(), False)
        self.ticks(1)
        self.assertIs(leg.is_done(), True)
        self.assertEqual(self.reply("CALL", 1, 44), [])

    def test_events_are_taken_once(self):
        leg = self.calling()
        self.reply("CALL", 1, 18)
        self.reply("CALL", 1, 44)
        found = leg.take_events()
        self.assertEqual(found, [("rang",), ("over", "failed", 44)])
        found.append("x")
        self.assertEqual(leg.take_events(), [])
